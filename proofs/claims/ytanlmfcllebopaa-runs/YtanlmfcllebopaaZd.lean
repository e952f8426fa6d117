/- What a graph gives, in plain words; lists of matrices in memory; graphs.isThere, walked. -/
import Derived.Test.YtanlmfcllebopaaZc
import Derived.Test.YtanlmfcllebopaaXl
import Derived.Test.YtanlmfcllebopaaWj
namespace Go.Proofs.Ytanlmfcllebopaa
open Go.RowKit

/-- what a node gives in row i, column k, of its input and its parts -/
def valZ (n : Nd) (I A B : Mx) (i k : Int) : Int := if n.op = 1 then numAt I.cols I.nums i k else placeZ' n A B i k
def giveM (n : Nd) (I A B : Mx) : Mx := ⟨n.rows, n.cols, numsTo (valZ n I A B) n.cols.toNat (n.rows.toNat * n.cols.toNat)⟩
def partM (ms : List Mx) (x : Int) : Mx := ms.getD x.toNat zeroMx
def inputOf (ins : List Mx) (n : Nd) : Mx := if n.op = 1 then partM ins n.k else zeroMx
def partA (ms : List Mx) (n : Nd) : Mx := if 0 < partsZ n.op then partM ms n.a else zeroMx
def partB (ms : List Mx) (n : Nd) : Mx := if 1 < partsZ n.op then partM ms n.b else zeroMx
/-- what the first m nodes give -/
def gives (ns : List Nd) (ins : List Mx) : Nat → List Mx
  | 0 => []
  | m + 1 => gives ns ins m ++ [giveM (nth ns m) (inputOf ins (nth ns m)) (partA (gives ns ins m) (nth ns m)) (partB (gives ns ins m) (nth ns m))]
def inputOk (ins : List Mx) (n : Nd) : Bool :=
  n.op != 1 || (decide (n.k < ins.length) && (partM ins n.k).rows == n.rows && (partM ins n.k).cols == n.cols && ((partM ins n.k).nums.length : Int) == n.rows * n.cols)
def inputsOk (ns : List Nd) (ins : List Mx) : Bool := ns.all (inputOk ins)
theorem gives_len (ns : List Nd) (ins : List Mx) : ∀ m, (gives ns ins m).length = m
  | 0 => rfl
  | m + 1 => by rw [gives, List.length_append, gives_len ns ins m]; rfl
theorem giveM_ok {n : Nd} {I A B : Mx} (h : sidesOk n) : MxOk (giveM n I A B) := by
  obtain ⟨⟨r1, r2⟩, c1, c2⟩ := h
  refine ⟨⟨r1, r2⟩, ⟨c1, c2⟩, ?_⟩
  show ((numsTo _ _ _).length : Int) = _
  rw [numsTo_len, Int.natCast_mul, Int.toNat_of_nonneg (by omega), Int.toNat_of_nonneg (by omega)]
  rfl
theorem gives_at (ns : List Nd) (ins : List Mx) : ∀ m j, j < m → ∃ I A B, (gives ns ins m).getD j zeroMx = giveM (nth ns j) I A B := by
  intro m
  induction m with
  | zero => intro j h; omega
  | succ m ih =>
    intro j h
    rw [gives]
    by_cases e : j = m
    · subst e
      exact ⟨_, _, _, by simp [List.getD, gives_len]; rfl⟩
    · obtain ⟨I, A, B, h'⟩ := ih j (by omega)
      refine ⟨I, A, B, ?_⟩
      rw [← h']
      simp only [List.getD]
      rw [List.getElem?_append_left (by rw [gives_len]; omega)]
/-- a part of a right node, as it was given -/
theorem partM_ok {ns : List Nd} {ins : List Mx} {m : Nat} {x : Int} (hg : isGraphB ns = true) (hm : m ≤ ns.length) (h : 0 ≤ x ∧ x < m) :
    MxOk (partM (gives ns ins m) x) ∧ (partM (gives ns ins m) x).rows = (nth ns x).rows ∧ (partM (gives ns ins m) x).cols = (nth ns x).cols := by
  obtain ⟨I, A, B, e⟩ := gives_at ns ins m x.toNat (by omega)
  have hx : ((x.toNat : Nat) : Int) = x := by omega
  rw [hx] at e
  have hs : sidesOk (nth ns x) := nth_mem hm h (fun j _ hj => sides hg j hj)
  rw [partM, e]
  exact ⟨giveM_ok hs, rfl, rfl⟩
/-- a matrix of a slice that begins at ao -/
def MatAt (w : World) (ao : Option Addr) (i : Nat) (m : Mx) : Prop :=
  ∃ b off, ao = some ⟨b, off, none⟩ ∧ b < w.heap.size ∧ w.cell? ⟨b, off + i * 3, none⟩ = some (.int .i64 m.rows) ∧ w.cell? ⟨b, off + i * 3 + 1, none⟩ = some (.int .i64 m.cols) ∧ ∃ no nc, w.cell? ⟨b, off + i * 3 + 2, none⟩ = some (.slice no m.nums.length nc) ∧ Ints w no m.nums
def Mats (w : World) (ao : Option Addr) (ms : List Mx) : Prop := ∀ i, (h : i < ms.length) → MatAt w ao i ms[i]
theorem MatAt.below {w w' : World} {ao : Option Addr} {i : Nat} {m : Mx} (h : MatAt w ao i m) (hb : Below w.heap.size w w') : MatAt w' ao i m := by
  obtain ⟨b, off, rfl, hs, c0, c1, no, nc, c2, hi⟩ := h
  exact ⟨b, off, rfl, Nat.lt_of_lt_of_le hs hb.size, (hb.cell (by exact hs)).trans c0, (hb.cell (by exact hs)).trans c1, no, nc, (hb.cell (by exact hs)).trans c2, hi.below hb⟩
theorem Mats.below {w w' : World} {ao : Option Addr} {ms : List Mx} (h : Mats w ao ms) (hb : Below w.heap.size w w') : Mats w' ao ms := fun i hi => (h i hi).below hb
theorem partM_at (ms : List Mx) (k : Nat) (h : k < ms.length) : partM ms (k : Int) = ms[k] := by simp [partM, h]
set_option maxHeartbeats 2000000 in
theorem there_no (n : Nd) (ins : List Mx) (io : Option Addr) (ic : Nat) (w : World) (hk : (ins.length : Int) ≤ n.k) :
    Calls Try.prog 41 #[.agg #[.int .i64 n.op, .int .i64 n.a, .int .i64 n.b, .int .i64 n.k, .int .i64 n.rows, .int .i64 n.cols], .slice io ins.length ic] w fun e w' => e = .returned (.bool false) ∧ Below w.heap.size w w' := by
  go_enter Try.func41, Try.ntmps41
  go_wp2
  go_ret
  exact ⟨rfl, by repeat (first | exact Bl.refl _ | refine Bl.more ?_ _)⟩
set_option maxHeartbeats 2000000 in
theorem there_some (n : Nd) (ins : List Mx) (io : Option Addr) (ic k : Nat) (w : World) (hI : Mats w io ins) (hk : n.k = k) (hl : k < ins.length) (hs : sidesOk n) :
    Calls Try.prog 41 #[.agg #[.int .i64 n.op, .int .i64 n.a, .int .i64 n.b, .int .i64 n.k, .int .i64 n.rows, .int .i64 n.cols], .slice io ins.length ic] w fun e w' => e = .returned (.bool (ins[k].rows == n.rows && ins[k].cols == n.cols && (ins[k].nums.length : Int) == n.rows * n.cols)) ∧ Below w.heap.size w w' := by
  obtain ⟨b, off, rfl, hbs, c0, c1, no, nc, c2, _⟩ := hI k hl
  obtain ⟨⟨r1, r2⟩, d1, d2⟩ := hs
  have hpb : 0 ≤ n.rows * n.cols ∧ n.rows * n.cols ≤ 16 := by
    obtain h | h | h | h : n.rows = 1 ∨ n.rows = 2 ∨ n.rows = 3 ∨ n.rows = 4 := by omega
    all_goals rw [h]; omega
  obtain ⟨p1, p2⟩ := hpb
  have hal := al1 hbs
  rw [hk]
  cases h1 : (ins[k].rows == n.rows)
  · go_enter Try.func41, Try.ntmps41
    go_wp2
    go_ret
    exact ⟨rfl, by repeat (first | exact Bl.refl _ | refine Bl.more ?_ _)⟩
  cases h2 : (ins[k].cols == n.cols)
  · go_enter Try.func41, Try.ntmps41
    go_wp2
    go_ret
    exact ⟨rfl, by repeat (first | exact Bl.refl _ | refine Bl.more ?_ _)⟩
  go_enter Try.func41, Try.ntmps41
  go_wp2
  go_ret
  exact ⟨by simp, by repeat (first | exact Bl.refl _ | refine Bl.more ?_ _)⟩
end Go.Proofs.Ytanlmfcllebopaa
