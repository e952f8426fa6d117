/- Lists of ints and matrices in memory; thriftref.at and thriftref.place, walked. -/
import Derived.Test.YtanlmfcllebopaaWa
import Derived.Deep.RegionHeld3
import Derived.Deep.Cut
namespace Go.Proofs.Ytanlmfcllebopaa
open Go.RowKit

/-- a slice of ints that begins at ao holds l -/
def Ints (w : World) (ao : Option Addr) (l : List Int) : Prop := ∀ j, (h : j < l.length) → ∃ b off, ao = some ⟨b, off, none⟩ ∧ b < w.heap.size ∧ w.cell? ⟨b, off + j, none⟩ = some (.int .i64 l[j])
theorem Ints.below {w w' : World} {ao : Option Addr} {l : List Int} (h : Ints w ao l) (hb : Below w.heap.size w w') : Ints w' ao l := by
  intro j hj
  obtain ⟨b, off, rfl, hs, hc⟩ := h j hj
  exact ⟨b, off, rfl, Nat.lt_of_lt_of_le hs hb.size, (hb.cell (by exact hs)).trans hc⟩
/-- a matrix: its rows, its columns, its numbers -/
structure Mx where
  rows : Int
  cols : Int
  nums : List Int
def zeroMx : Mx := ⟨0, 0, []⟩
def numAt (c : Int) (l : List Int) (i k : Int) : Int := l.getD (i * c + k).toNat 0
def sumTo (A B : Mx) (i k : Int) : Nat → Int
  | 0 => 0
  | j + 1 => wrap64 (sumTo A B i k j + wrap64 (numAt A.cols A.nums i j * numAt B.cols B.nums j k))
/-- what a node that is no In gives in row i, column k -/
def placeZ' (n : Nd) (A B : Mx) (i k : Int) : Int :=
  if n.op = 2 then n.k
  else if n.op = 3 then wrap64 (numAt A.cols A.nums i k + numAt B.cols B.nums i k)
  else if n.op = 4 then wrap64 (numAt A.cols A.nums i k - numAt B.cols B.nums i k)
  else if n.op = 5 then wrap64 (numAt A.cols A.nums i k * numAt B.cols B.nums i k)
  else if n.op = 6 then wrap64 (n.k * numAt A.cols A.nums i k)
  else if n.op = 8 then numAt A.cols A.nums k i
  else sumTo A B i k A.cols.toNat
theorem prod_bd {i c : Int} (hi : 0 ≤ i ∧ i ≤ 3) (hc : 0 ≤ c ∧ c ≤ 4) : 0 ≤ i * c ∧ i * c ≤ 12 := by
  obtain rfl | rfl | rfl | rfl : i = 0 ∨ i = 1 ∨ i = 2 ∨ i = 3 := by omega
  all_goals omega
theorem wrapEq (x : Int) : IntKind.i64.wrap x = wrap64 x := by unfold wrap64; exact IntKind.wrap_i64 x
/-- a matrix as a value, its numbers lying at no -/
def mxVal (r c : Int) (no : Option Addr) (n cap : Nat) : Value := .agg #[.int .i64 r, .int .i64 c, .slice no n cap]

set_option maxHeartbeats 1000000 in
theorem rat_any (r c : Int) (no : Option Addr) (l : List Int) (cap : Nat) (i k : Int) (w : World) (hl : Ints w no l) (hi : 0 ≤ i ∧ i ≤ 3) (hk : 0 ≤ k ∧ k ≤ 3) (hc : 0 ≤ c ∧ c ≤ 4) (hx : i * c + k < l.length) :
    Calls Try.prog 24 #[.agg #[.int .i64 r, .int .i64 c, .slice no l.length cap], .int .i64 i, .int .i64 k] w fun e w' => e = .returned (.int .i64 (numAt c l i k)) ∧ Below w.heap.size w w' := by
  obtain ⟨p1, p2⟩ := prod_bd hi hc
  obtain ⟨hi1, hi2⟩ := hi
  obtain ⟨hk1, hk2⟩ := hk
  obtain ⟨hc1, hc2⟩ := hc
  have HN : Hid (numAt c l i k = l.getD (i * c + k).toNat 0) := rfl
  obtain ⟨q, hq⟩ := Int.eq_ofNat_of_zero_le (show 0 ≤ i * c + k by omega)
  have hql : q < l.length := by omega
  obtain ⟨b, off, rfl, hs, hcell⟩ := hl q hql
  have hal := al1 hs
  have ht : (i * c + k).toNat = q := by omega
  have HV : Hid (numAt c l i k = l[q]) := by show numAt c l i k = l[q]; rw [HN.out, ht]; simp [hql]
  have hcell' : w.cell? ⟨b, off + (i * c + k).toNat, none⟩ = some (.int .i64 l[q]) := by rw [ht]; exact hcell
  have hge : 0 ≤ i * c + k := by omega
  clear hq
  go_enter Try.func24, Try.ntmps24
  go_wp2
  go_ret
  exact ⟨ret_int (by rw [HV.out]), Bl.more (Bl.refl _) _⟩
/-- a matrix whose sides are right and whose numbers fill it -/
def MxOk (m : Mx) : Prop := (1 ≤ m.rows ∧ m.rows ≤ 4) ∧ (1 ≤ m.cols ∧ m.cols ≤ 4) ∧ (m.nums.length : Int) = m.rows * m.cols
theorem MxOk.lt {m : Mx} (h : MxOk m) {i k : Int} (hi : 0 ≤ i ∧ i < m.rows) (hk : 0 ≤ k ∧ k < m.cols) : i * m.cols + k < m.nums.length := by
  obtain ⟨⟨r1, r2⟩, ⟨c1, c2⟩, hl⟩ := h
  rw [hl]
  obtain h' | h' | h' | h' : m.rows = 1 ∨ m.rows = 2 ∨ m.rows = 3 ∨ m.rows = 4 := by omega
  all_goals
    rw [h'] at hi ⊢
    obtain rfl | rfl | rfl | rfl : i = 0 ∨ i = 1 ∨ i = 2 ∨ i = 3 := by omega
    all_goals omega
/-- a node of two parts of a shape -/
def FitTwo (A B : Mx) (i k : Int) : Prop := (MxOk A ∧ MxOk B) ∧ (0 ≤ i ∧ i < A.rows) ∧ (0 ≤ k ∧ k < A.cols) ∧ i < B.rows ∧ k < B.cols
theorem mx_below {w w' : World} {b : Nat} {r c : Int} {no : Option Addr} {n cap : Nat} (hs : b < w.heap.size) (h : w.cell? ⟨b, 0, none⟩ = some (.int .i64 r) ∧ w.cell? ⟨b, 1, none⟩ = some (.int .i64 c) ∧ w.cell? ⟨b, 2, none⟩ = some (.slice no n cap)) (hb : Below w.heap.size w w') :
    w'.cell? ⟨b, 0, none⟩ = some (.int .i64 r) ∧ w'.cell? ⟨b, 1, none⟩ = some (.int .i64 c) ∧ w'.cell? ⟨b, 2, none⟩ = some (.slice no n cap) :=
  ⟨(hb.cell (by exact hs)).trans h.1, (hb.cell (by exact hs)).trans h.2.1, (hb.cell (by exact hs)).trans h.2.2⟩
/-- a matrix in a block of its own -/
def MxCell (w : World) (b : Nat) (r c : Int) (no : Option Addr) (n cap : Nat) : Prop := b < w.heap.size ∧ w.cell? ⟨b, 0, none⟩ = some (.int .i64 r) ∧ w.cell? ⟨b, 1, none⟩ = some (.int .i64 c) ∧ w.cell? ⟨b, 2, none⟩ = some (.slice no n cap)
theorem MxCell.below {w w' : World} {b : Nat} {r c : Int} {no : Option Addr} {n cap : Nat} (h : MxCell w b r c no n cap) (hb : Below w.heap.size w w') : MxCell w' b r c no n cap :=
  ⟨Nat.lt_of_lt_of_le h.1 hb.size, mx_below h.1 h.2 hb⟩
theorem MxCell.new (w : World) (r c : Int) (no : Option Addr) (n cap : Nat) (t : TypeId) : MxCell (w.alloc (.cells #[.int .i64 r, .int .i64 c, .slice no n cap] t)) w.heap.size r c no n cap :=
  ⟨by simp, by simp [go_sem], by simp [go_sem], by simp [go_sem]⟩
set_option maxHeartbeats 2000000 in
set_option maxRecDepth 100000 in
theorem rplace_two (n : Nd) (A B : Mx) (ao bo : Option Addr) (ac bc : Nat) (i k : Int) (w : World) (hA : Ints w ao A.nums) (hB : Ints w bo B.nums) (ho : n.op = 3 ∨ n.op = 4 ∨ n.op = 5) (hf : FitTwo A B i k) :
    Calls Try.prog 26 #[.agg #[.int .i64 n.op, .int .i64 n.a, .int .i64 n.b, .int .i64 n.k, .int .i64 n.rows, .int .i64 n.cols], .agg #[.int .i64 A.rows, .int .i64 A.cols, .slice ao A.nums.length ac], .agg #[.int .i64 B.rows, .int .i64 B.cols, .slice bo B.nums.length bc], .int .i64 i, .int .i64 k] w fun e w' => e = .returned (.int .i64 (placeZ' n A B i k)) ∧ Below w.heap.size w w' := by
  obtain ⟨⟨oA, oB⟩, ⟨i1, i2⟩, ⟨k1, k2⟩, i3, k3⟩ := hf
  have xA := oA.lt ⟨i1, i2⟩ ⟨k1, k2⟩
  have xB := oB.lt ⟨i1, i3⟩ ⟨k1, k3⟩
  have HB : Hid ((0 ≤ i ∧ i ≤ 3) ∧ (0 ≤ k ∧ k ≤ 3) ∧ (0 ≤ A.cols ∧ A.cols ≤ 4) ∧ (0 ≤ B.cols ∧ B.cols ≤ 4) ∧ i * A.cols + k < A.nums.length ∧ i * B.cols + k < B.nums.length) := ⟨⟨i1, by have := oA.1; omega⟩, ⟨k1, by have := oA.2.1; omega⟩, ⟨by have := oA.2.1; omega, by have := oA.2.1; omega⟩, ⟨by have := oB.2.1; omega, by have := oB.2.1; omega⟩, xA, xB⟩
  have HA : Hid (Ints w ao A.nums ∧ Ints w bo B.nums) := ⟨hA, hB⟩
  clear hA hB oA oB i1 i2 k1 k2 i3 k3 xA xB
  rcases ho with ho | ho | ho
  · have HV : Hid (placeZ' n A B i k = wrap64 (numAt A.cols A.nums i k + numAt B.cols B.nums i k)) := by show placeZ' n A B i k = _; simp [placeZ', ho]
    rw [ho]
    go_enter Try.func26, Try.ntmps26
    go_wp2
    go_region_held3 (fun w' => w'.cell? ⟨w.heap.size + 1, 0, none⟩ = some (.int .i64 A.rows) ∧ w'.cell? ⟨w.heap.size + 1, 1, none⟩ = some (.int .i64 A.cols) ∧ w'.cell? ⟨w.heap.size + 1, 2, none⟩ = some (.slice ao A.nums.length ac) ∧ w'.cell? ⟨w.heap.size + 1 + 1, 0, none⟩ = some (.int .i64 B.rows) ∧ w'.cell? ⟨w.heap.size + 1 + 1, 1, none⟩ = some (.int .i64 B.cols) ∧ w'.cell? ⟨w.heap.size + 1 + 1, 2, none⟩ = some (.slice bo B.nums.length bc))
      (first | (refine ⟨?_, ?_, ?_, ?_, ?_, ?_⟩ <;> assumption) | (refine ⟨?_, ?_, ?_, ?_, ?_, ?_⟩ <;> simp [go_sem]))
      (first | (go_at_call_of 24 (A.cols); refine (rat_any A.rows A.cols ao A.nums ac i k _ ?_ HB.out.1 HB.out.2.1 HB.out.2.2.1 HB.out.2.2.2.2.1).mono ?_; (exact HA.out.1.below (by repeat (first | exact Bl.refl _ | refine Bl.more ?_ _ | refine Below.drew ?_))); rintro e w3 ⟨rfl, hb3⟩; have MA3 : Hid (MxCell w3 (w.heap.size + 1) A.rows A.cols ao A.nums.length ac) := MxCell.below ⟨by simp, by simp [go_sem], by simp [go_sem], by simp [go_sem]⟩ hb3; have MB3 : Hid (MxCell w3 (w.heap.size + 1 + 1) B.rows B.cols bo B.nums.length bc) := MxCell.below ⟨by simp, by simp [go_sem], by simp [go_sem], by simp [go_sem]⟩ hb3; have HW3 : Hid (Below w.heap.size w w3) := Bl.trans (by repeat (first | exact Bl.refl _ | refine Bl.more ?_ _ | refine Below.drew ?_)) hb3; obtain ⟨_, a0, a1, a2⟩ := MA3.out; obtain ⟨_, b0, b1, b2⟩ := MB3.out) | (go_at_call_of 24 (B.cols); refine (rat_any B.rows B.cols bo B.nums bc i k _ ?_ HB.out.1 HB.out.2.1 HB.out.2.2.2.1 HB.out.2.2.2.2.2).mono ?_; (exact HA.out.2.below HW3.out); rintro e w4 ⟨rfl, hb4⟩; obtain ⟨_, a40, a41, a42⟩ := MA3.out.below hb4; obtain ⟨_, b40, b41, b42⟩ := MB3.out.below hb4))
    all_goals
      go_wp2
      go_ret
      exact ⟨ret_int (by rw [HV.out, wrapEq]), Bl.trans HW3.out hb4⟩
  · have HV : Hid (placeZ' n A B i k = wrap64 (numAt A.cols A.nums i k - numAt B.cols B.nums i k)) := by show placeZ' n A B i k = _; simp [placeZ', ho]
    rw [ho]
    go_enter Try.func26, Try.ntmps26
    go_wp2
    go_region_held3 (fun w' => w'.cell? ⟨w.heap.size + 1, 0, none⟩ = some (.int .i64 A.rows) ∧ w'.cell? ⟨w.heap.size + 1, 1, none⟩ = some (.int .i64 A.cols) ∧ w'.cell? ⟨w.heap.size + 1, 2, none⟩ = some (.slice ao A.nums.length ac) ∧ w'.cell? ⟨w.heap.size + 1 + 1, 0, none⟩ = some (.int .i64 B.rows) ∧ w'.cell? ⟨w.heap.size + 1 + 1, 1, none⟩ = some (.int .i64 B.cols) ∧ w'.cell? ⟨w.heap.size + 1 + 1, 2, none⟩ = some (.slice bo B.nums.length bc))
      (first | (refine ⟨?_, ?_, ?_, ?_, ?_, ?_⟩ <;> assumption) | (refine ⟨?_, ?_, ?_, ?_, ?_, ?_⟩ <;> simp [go_sem]))
      (first | (go_at_call_of 24 (A.cols); refine (rat_any A.rows A.cols ao A.nums ac i k _ ?_ HB.out.1 HB.out.2.1 HB.out.2.2.1 HB.out.2.2.2.2.1).mono ?_; (exact HA.out.1.below (by repeat (first | exact Bl.refl _ | refine Bl.more ?_ _ | refine Below.drew ?_))); rintro e w3 ⟨rfl, hb3⟩; have MA3 : Hid (MxCell w3 (w.heap.size + 1) A.rows A.cols ao A.nums.length ac) := MxCell.below ⟨by simp, by simp [go_sem], by simp [go_sem], by simp [go_sem]⟩ hb3; have MB3 : Hid (MxCell w3 (w.heap.size + 1 + 1) B.rows B.cols bo B.nums.length bc) := MxCell.below ⟨by simp, by simp [go_sem], by simp [go_sem], by simp [go_sem]⟩ hb3; have HW3 : Hid (Below w.heap.size w w3) := Bl.trans (by repeat (first | exact Bl.refl _ | refine Bl.more ?_ _ | refine Below.drew ?_)) hb3; obtain ⟨_, a0, a1, a2⟩ := MA3.out; obtain ⟨_, b0, b1, b2⟩ := MB3.out) | (go_at_call_of 24 (B.cols); refine (rat_any B.rows B.cols bo B.nums bc i k _ ?_ HB.out.1 HB.out.2.1 HB.out.2.2.2.1 HB.out.2.2.2.2.2).mono ?_; (exact HA.out.2.below HW3.out); rintro e w4 ⟨rfl, hb4⟩; obtain ⟨_, a40, a41, a42⟩ := MA3.out.below hb4; obtain ⟨_, b40, b41, b42⟩ := MB3.out.below hb4))
    all_goals
      go_wp2
      go_ret
      exact ⟨ret_int (by rw [HV.out, wrapEq]), Bl.trans HW3.out hb4⟩
  · have HV : Hid (placeZ' n A B i k = wrap64 (numAt A.cols A.nums i k * numAt B.cols B.nums i k)) := by show placeZ' n A B i k = _; simp [placeZ', ho]
    rw [ho]
    go_enter Try.func26, Try.ntmps26
    go_wp2
    go_region_held3 (fun w' => w'.cell? ⟨w.heap.size + 1, 0, none⟩ = some (.int .i64 A.rows) ∧ w'.cell? ⟨w.heap.size + 1, 1, none⟩ = some (.int .i64 A.cols) ∧ w'.cell? ⟨w.heap.size + 1, 2, none⟩ = some (.slice ao A.nums.length ac) ∧ w'.cell? ⟨w.heap.size + 1 + 1, 0, none⟩ = some (.int .i64 B.rows) ∧ w'.cell? ⟨w.heap.size + 1 + 1, 1, none⟩ = some (.int .i64 B.cols) ∧ w'.cell? ⟨w.heap.size + 1 + 1, 2, none⟩ = some (.slice bo B.nums.length bc))
      (first | (refine ⟨?_, ?_, ?_, ?_, ?_, ?_⟩ <;> assumption) | (refine ⟨?_, ?_, ?_, ?_, ?_, ?_⟩ <;> simp [go_sem]))
      (first | (go_at_call_of 24 (A.cols); refine (rat_any A.rows A.cols ao A.nums ac i k _ ?_ HB.out.1 HB.out.2.1 HB.out.2.2.1 HB.out.2.2.2.2.1).mono ?_; (exact HA.out.1.below (by repeat (first | exact Bl.refl _ | refine Bl.more ?_ _ | refine Below.drew ?_))); rintro e w3 ⟨rfl, hb3⟩; have MA3 : Hid (MxCell w3 (w.heap.size + 1) A.rows A.cols ao A.nums.length ac) := MxCell.below ⟨by simp, by simp [go_sem], by simp [go_sem], by simp [go_sem]⟩ hb3; have MB3 : Hid (MxCell w3 (w.heap.size + 1 + 1) B.rows B.cols bo B.nums.length bc) := MxCell.below ⟨by simp, by simp [go_sem], by simp [go_sem], by simp [go_sem]⟩ hb3; have HW3 : Hid (Below w.heap.size w w3) := Bl.trans (by repeat (first | exact Bl.refl _ | refine Bl.more ?_ _ | refine Below.drew ?_)) hb3; obtain ⟨_, a0, a1, a2⟩ := MA3.out; obtain ⟨_, b0, b1, b2⟩ := MB3.out) | (go_at_call_of 24 (B.cols); refine (rat_any B.rows B.cols bo B.nums bc i k _ ?_ HB.out.1 HB.out.2.1 HB.out.2.2.2.1 HB.out.2.2.2.2.2).mono ?_; (exact HA.out.2.below HW3.out); rintro e w4 ⟨rfl, hb4⟩; obtain ⟨_, a40, a41, a42⟩ := MA3.out.below hb4; obtain ⟨_, b40, b41, b42⟩ := MB3.out.below hb4))
    all_goals
      go_wp2
      go_ret
      exact ⟨ret_int (by rw [HV.out, wrapEq]), Bl.trans HW3.out hb4⟩
set_option maxHeartbeats 400000 in
theorem rplace_fill (n : Nd) (A B : Mx) (ao bo : Option Addr) (ac bc : Nat) (i k : Int) (w : World) (ho : n.op = 2) :
    Calls Try.prog 26 #[.agg #[.int .i64 n.op, .int .i64 n.a, .int .i64 n.b, .int .i64 n.k, .int .i64 n.rows, .int .i64 n.cols], .agg #[.int .i64 A.rows, .int .i64 A.cols, .slice ao A.nums.length ac], .agg #[.int .i64 B.rows, .int .i64 B.cols, .slice bo B.nums.length bc], .int .i64 i, .int .i64 k] w fun e w' => e = .returned (.int .i64 (placeZ' n A B i k)) ∧ Below w.heap.size w w' := by
  have HV : Hid (placeZ' n A B i k = n.k) := by show placeZ' n A B i k = _; simp [placeZ', ho]
  rw [ho]
  go_enter Try.func26, Try.ntmps26
  go_wp2
  go_ret
  exact ⟨ret_int (by rw [HV.out]), by repeat (first | exact Bl.refl _ | refine Bl.more ?_ _)⟩
/-- a node of one part of a shape -/
def FitOne (A : Mx) (i k : Int) : Prop := MxOk A ∧ (0 ≤ i ∧ i < A.rows) ∧ (0 ≤ k ∧ k < A.cols)
theorem FitOne.bd {A : Mx} {i k : Int} (h : FitOne A i k) : (0 ≤ i ∧ i ≤ 3) ∧ (0 ≤ k ∧ k ≤ 3) ∧ (0 ≤ A.cols ∧ A.cols ≤ 4) ∧ i * A.cols + k < A.nums.length := by
  obtain ⟨oA, ⟨i1, i2⟩, k1, k2⟩ := h
  exact ⟨⟨i1, by have := oA.1; omega⟩, ⟨k1, by have := oA.2.1; omega⟩, ⟨by have := oA.2.1; omega, by have := oA.2.1; omega⟩, oA.lt ⟨i1, i2⟩ ⟨k1, k2⟩⟩
set_option maxHeartbeats 2000000 in
set_option maxRecDepth 100000 in
theorem rplace_scale (n : Nd) (A B : Mx) (ao bo : Option Addr) (ac bc : Nat) (i k : Int) (w : World) (hA : Ints w ao A.nums) (ho : n.op = 6) (hf : FitOne A i k) :
    Calls Try.prog 26 #[.agg #[.int .i64 n.op, .int .i64 n.a, .int .i64 n.b, .int .i64 n.k, .int .i64 n.rows, .int .i64 n.cols], .agg #[.int .i64 A.rows, .int .i64 A.cols, .slice ao A.nums.length ac], .agg #[.int .i64 B.rows, .int .i64 B.cols, .slice bo B.nums.length bc], .int .i64 i, .int .i64 k] w fun e w' => e = .returned (.int .i64 (placeZ' n A B i k)) ∧ Below w.heap.size w w' := by
  have HB : Hid ((0 ≤ i ∧ i ≤ 3) ∧ (0 ≤ k ∧ k ≤ 3) ∧ (0 ≤ A.cols ∧ A.cols ≤ 4) ∧ i * A.cols + k < A.nums.length) := hf.bd
  have HA : Hid (Ints w ao A.nums) := hA
  clear hA hf
  have HV : Hid (placeZ' n A B i k = wrap64 (n.k * numAt A.cols A.nums i k)) := by show placeZ' n A B i k = _; simp [placeZ', ho]
  rw [ho]
  go_enter Try.func26, Try.ntmps26
  go_wp2
  go_region_held3 (fun w' => w'.cell? ⟨w.heap.size + 1, 0, none⟩ = some (.int .i64 A.rows) ∧ w'.cell? ⟨w.heap.size + 1, 1, none⟩ = some (.int .i64 A.cols) ∧ w'.cell? ⟨w.heap.size + 1, 2, none⟩ = some (.slice ao A.nums.length ac) ∧ w'.cell? ⟨w.heap.size, 3, none⟩ = some (.int .i64 n.k))
    (first | (refine ⟨?_, ?_, ?_, ?_⟩ <;> assumption) | (refine ⟨?_, ?_, ?_, ?_⟩ <;> simp [go_sem]))
    (first | (go_at_call 24; refine (rat_any A.rows A.cols ao A.nums ac i k _ ?_ HB.out.1 HB.out.2.1 HB.out.2.2.1 HB.out.2.2.2).mono ?_; (exact HA.out.below (by repeat (first | exact Bl.refl _ | refine Bl.more ?_ _ | refine Below.drew ?_))); rintro e w3 ⟨rfl, hb3⟩; have MA3 : Hid (MxCell w3 (w.heap.size + 1) A.rows A.cols ao A.nums.length ac) := MxCell.below ⟨by simp, by simp [go_sem], by simp [go_sem], by simp [go_sem]⟩ hb3; have HW3 : Hid (Below w.heap.size w w3) := Bl.trans (by repeat (first | exact Bl.refl _ | refine Bl.more ?_ _ | refine Below.drew ?_)) hb3; obtain ⟨_, a0, a1, a2⟩ := MA3.out; have nk : w3.cell? ⟨w.heap.size, 3, none⟩ = some (.int .i64 n.k) := (hb3.cell (p := ⟨w.heap.size, 3, none⟩) (by simp; omega)).trans (by simp [go_sem])))
  all_goals
    go_wp2
    go_ret
    exact ⟨ret_int (by rw [HV.out, wrapEq]), HW3.out⟩
set_option maxHeartbeats 2000000 in
set_option maxRecDepth 100000 in
theorem rplace_turn (n : Nd) (A B : Mx) (ao bo : Option Addr) (ac bc : Nat) (i k : Int) (w : World) (hA : Ints w ao A.nums) (ho : n.op = 8) (hf : FitOne A k i) :
    Calls Try.prog 26 #[.agg #[.int .i64 n.op, .int .i64 n.a, .int .i64 n.b, .int .i64 n.k, .int .i64 n.rows, .int .i64 n.cols], .agg #[.int .i64 A.rows, .int .i64 A.cols, .slice ao A.nums.length ac], .agg #[.int .i64 B.rows, .int .i64 B.cols, .slice bo B.nums.length bc], .int .i64 i, .int .i64 k] w fun e w' => e = .returned (.int .i64 (placeZ' n A B i k)) ∧ Below w.heap.size w w' := by
  have HB : Hid ((0 ≤ k ∧ k ≤ 3) ∧ (0 ≤ i ∧ i ≤ 3) ∧ (0 ≤ A.cols ∧ A.cols ≤ 4) ∧ k * A.cols + i < A.nums.length) := hf.bd
  have HA : Hid (Ints w ao A.nums) := hA
  clear hA hf
  have HV : Hid (placeZ' n A B i k = numAt A.cols A.nums k i) := by show placeZ' n A B i k = _; simp [placeZ', ho]
  rw [ho]
  go_enter Try.func26, Try.ntmps26
  go_wp2_with fail
  refine (rat_any A.rows A.cols ao A.nums ac k i _ ?_ HB.out.1 HB.out.2.1 HB.out.2.2.1 HB.out.2.2.2).mono ?_
  · exact HA.out.below (by repeat (first | exact Bl.refl _ | refine Bl.more ?_ _))
  rintro e w3 ⟨rfl, hb3⟩
  go_wp2
  go_ret
  exact ⟨ret_int (by rw [HV.out]), Bl.trans (by repeat (first | exact Bl.refl _ | refine Bl.more ?_ _)) hb3⟩
/-- a node Times of two parts -/
def FitTimes (A B : Mx) (i k : Int) : Prop := (MxOk A ∧ MxOk B) ∧ (0 ≤ i ∧ i < A.rows) ∧ (0 ≤ k ∧ k < B.cols) ∧ A.cols = B.rows
set_option maxHeartbeats 4000000 in
set_option maxRecDepth 100000 in
theorem rplace_times (n : Nd) (A B : Mx) (ao bo : Option Addr) (ac bc : Nat) (i k : Int) (w : World) (hA : Ints w ao A.nums) (hB : Ints w bo B.nums) (ho : n.op = 7) (hf : FitTimes A B i k) :
    Calls Try.prog 26 #[.agg #[.int .i64 n.op, .int .i64 n.a, .int .i64 n.b, .int .i64 n.k, .int .i64 n.rows, .int .i64 n.cols], .agg #[.int .i64 A.rows, .int .i64 A.cols, .slice ao A.nums.length ac], .agg #[.int .i64 B.rows, .int .i64 B.cols, .slice bo B.nums.length bc], .int .i64 i, .int .i64 k] w fun e w' => e = .returned (.int .i64 (placeZ' n A B i k)) ∧ Below w.heap.size w w' := by
  obtain ⟨⟨oA, oB⟩, ⟨i1, i2⟩, ⟨k1, k2⟩, hAB⟩ := hf
  have HX : Hid (∀ j : Int, 0 ≤ j ∧ j < A.cols → ((0 ≤ i ∧ i ≤ 3) ∧ (0 ≤ j ∧ j ≤ 3) ∧ (0 ≤ A.cols ∧ A.cols ≤ 4) ∧ i * A.cols + j < A.nums.length) ∧ ((0 ≤ j ∧ j ≤ 3) ∧ (0 ≤ k ∧ k ≤ 3) ∧ (0 ≤ B.cols ∧ B.cols ≤ 4) ∧ j * B.cols + k < B.nums.length)) := fun j hj => ⟨FitOne.bd ⟨oA, ⟨i1, i2⟩, hj⟩, FitOne.bd ⟨oB, ⟨hj.1, by omega⟩, ⟨k1, k2⟩⟩⟩
  have hc1 : 1 ≤ A.cols := oA.2.1.1
  have hc2 : A.cols ≤ 4 := oA.2.1.2
  have HA : Hid (Ints w ao A.nums ∧ Ints w bo B.nums) := ⟨hA, hB⟩
  clear hA hB oA oB i1 i2 k1 k2 hAB
  have HV : Hid (placeZ' n A B i k = sumTo A B i k A.cols.toNat) := by show placeZ' n A B i k = _; simp [placeZ', ho]
  rw [ho]
  go_enter Try.func26, Try.ntmps26
  go_wp2
  go_loopw [11, 12] (fun s j wr => ∃ q : Nat, (q : Int) ≤ A.cols ∧ j = .int .i64 q ∧ s = .int .i64 (sumTo A B i k q) ∧ MxCell wr (w.heap.size + 1) A.rows A.cols ao A.nums.length ac ∧ MxCell wr (w.heap.size + 1 + 1) B.rows B.cols bo B.nums.length bc ∧ Below w.heap.size w wr) (fun _ j _ => (A.cols - intOf j).toNat)
  case atStart => exact ⟨0, by omega, rfl, rfl, ⟨by simp, by simp [go_sem], by simp [go_sem], by simp [go_sem]⟩, ⟨by simp, by simp [go_sem], by simp [go_sem], by simp [go_sem]⟩, by repeat (first | exact Bl.refl _ | refine Bl.more ?_ _)⟩
  case round =>
    obtain ⟨q, hq, rfl, rfl, hma, hmb, hbr⟩ := hrel
    have HMA : Hid (MxCell wr (w.heap.size + 1) A.rows A.cols ao A.nums.length ac) := hma
    have HMB : Hid (MxCell wr (w.heap.size + 1 + 1) B.rows B.cols bo B.nums.length bc) := hmb
    obtain ⟨za, a0, a1, a2⟩ := hma
    obtain ⟨zb, b0, b1, b2⟩ := hmb
    by_cases hlt : (q : Int) < A.cols
    · have HXQ : Hid (((0 ≤ i ∧ i ≤ 3) ∧ (0 ≤ (q : Int) ∧ (q : Int) ≤ 3) ∧ (0 ≤ A.cols ∧ A.cols ≤ 4) ∧ i * A.cols + q < A.nums.length) ∧ ((0 ≤ (q : Int) ∧ (q : Int) ≤ 3) ∧ (0 ≤ k ∧ k ≤ 3) ∧ (0 ≤ B.cols ∧ B.cols ≤ 4) ∧ (q : Int) * B.cols + k < B.nums.length)) := HX.out q ⟨by omega, hlt⟩
      have HS : Hid (sumTo A B i k (q + 1) = wrap64 (sumTo A B i k q + wrap64 (numAt A.cols A.nums i q * numAt B.cols B.nums q k))) := rfl
      go_wp2
      go_region_held3 (fun w' => w'.cell? ⟨w.heap.size + 1, 0, none⟩ = some (.int .i64 A.rows) ∧ w'.cell? ⟨w.heap.size + 1, 1, none⟩ = some (.int .i64 A.cols) ∧ w'.cell? ⟨w.heap.size + 1, 2, none⟩ = some (.slice ao A.nums.length ac) ∧ w'.cell? ⟨w.heap.size + 1 + 1, 0, none⟩ = some (.int .i64 B.rows) ∧ w'.cell? ⟨w.heap.size + 1 + 1, 1, none⟩ = some (.int .i64 B.cols) ∧ w'.cell? ⟨w.heap.size + 1 + 1, 2, none⟩ = some (.slice bo B.nums.length bc))
        (first | (refine ⟨?_, ?_, ?_, ?_, ?_, ?_⟩ <;> assumption))
        (first | (go_at_call_of 24 (A.cols); refine (rat_any A.rows A.cols ao A.nums ac i q _ ?_ HXQ.out.1.1 HXQ.out.1.2.1 HXQ.out.1.2.2.1 HXQ.out.1.2.2.2).mono ?_; (exact HA.out.1.below (Bl.trans hbr (by repeat (first | exact Bl.refl _ | refine Below.drew ?_)))); rintro e w3 ⟨rfl, hb3⟩; have MA3 : Hid (MxCell w3 (w.heap.size + 1) A.rows A.cols ao A.nums.length ac) := MxCell.below HMA.out (Bl.trans (by repeat (first | exact Bl.refl _ | refine Below.drew ?_)) hb3); have MB3 : Hid (MxCell w3 (w.heap.size + 1 + 1) B.rows B.cols bo B.nums.length bc) := MxCell.below HMB.out (Bl.trans (by repeat (first | exact Bl.refl _ | refine Below.drew ?_)) hb3); have HW3 : Hid (Below w.heap.size w w3) := Bl.trans (Bl.trans hbr (by repeat (first | exact Bl.refl _ | refine Below.drew ?_))) hb3; obtain ⟨_, a30, a31, a32⟩ := MA3.out; obtain ⟨_, b30, b31, b32⟩ := MB3.out) | (go_at_call_of 24 (B.cols); refine (rat_any B.rows B.cols bo B.nums bc q k _ ?_ HXQ.out.2.1 HXQ.out.2.2.1 HXQ.out.2.2.2.1 HXQ.out.2.2.2.2).mono ?_; (exact HA.out.2.below HW3.out); rintro e w4 ⟨rfl, hb4⟩; obtain ⟨_, a40, a41, a42⟩ := MA3.out.below hb4; obtain ⟨_, b40, b41, b42⟩ := MB3.out.below hb4))
      all_goals
        go_wp2
        go_roundw
        case rel => exact ⟨q + 1, by omega, by go_num, by rw [HS.out, wrapEq, wrapEq], MA3.out.below hb4, MB3.out.below hb4, Bl.trans HW3.out hb4⟩
        case measure => simp [intOf]; omega
    · have hqe : Hid (A.cols.toNat = q) := by show A.cols.toNat = q; omega
      go_wp2
      go_ret
      exact ⟨ret_int (by rw [HV.out, hqe.out]), hbr⟩
end Go.Proofs.Ytanlmfcllebopaa
