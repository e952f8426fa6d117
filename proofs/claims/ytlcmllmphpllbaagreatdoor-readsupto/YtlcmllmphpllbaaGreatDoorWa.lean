/- The plain functions of thriftref, walked: what each returns; the words for nodes in memory. -/
import Derived.Test.YtlcmllmphpllbaaGreatDoorProg
import Derived.WalkKit
import Derived.WalkSpells
import Derived.WalkLawsBesides
import Derived.Deep.QuietTactic
import Derived.BigQuiet
namespace Go.Proofs.YtlcmllmphpllbaaGreatDoor
open Go.RowKit

theorem ret_int {k : IntKind} {a b : Int} (h : a = b) : Ending.returned (.int k a) = .returned (.int k b) := by rw [h]
theorem ret_bool {a b : Bool} (h : a = b) : Ending.returned (.bool a) = .returned (.bool b) := by rw [h]
theorem bcell {W w1 : World} (hb : Below W.heap.size W w1) : (∀ b o, b < W.heap.size → w1.cell? ⟨b, o, none⟩ = W.cell? ⟨b, o, none⟩) ∧ (∀ b o, b < W.heap.size → w1.frozen? ⟨b, o, none⟩ = W.frozen? ⟨b, o, none⟩) :=
  ⟨fun b o h => hb.cell (p := ⟨b, o, none⟩) h, fun b o h => hb.frozen (p := ⟨b, o, none⟩) h⟩

theorem Bl.refl (w : World) : Below w.heap.size w w := Below.refl _ _
theorem Bl.more {w w' : World} (h : Below w.heap.size w w') (o : Obj) : Below w.heap.size w (w'.alloc o) := h.alloc h.size o
theorem Bl.drew {w w' : World} (h : Below w.heap.size w w') (n : Nat) : Below w.heap.size w (w'.drewN n) := below_drewN h n
theorem Bl.trans {a b c : World} (h : Below a.heap.size a b) (k : Below b.heap.size b c) : Below a.heap.size a c := h.trans (k.mono h.size)

theorem al1 {w : World} {b : Nat} (h : b < w.heap.size) : ∀ o x, (w.alloc o).cell? ⟨b, x, none⟩ = w.cell? ⟨b, x, none⟩ := fun o _ => (Bl.more (Bl.refl w) o).cell (by exact h)
theorem al2 {w : World} {b : Nat} (h : b < w.heap.size) : ∀ o p x, ((w.alloc o).alloc p).cell? ⟨b, x, none⟩ = w.cell? ⟨b, x, none⟩ := fun o p _ => (Bl.more (Bl.more (Bl.refl w) o) p).cell (by exact h)
theorem al3 {w : World} {b : Nat} (h : b < w.heap.size) : ∀ o p q x, (((w.alloc o).alloc p).alloc q).cell? ⟨b, x, none⟩ = w.cell? ⟨b, x, none⟩ := fun o p q _ => (Bl.more (Bl.more (Bl.more (Bl.refl w) o) p) q).cell (by exact h)
theorem al4 {w : World} {b : Nat} (h : b < w.heap.size) : ∀ o p q r x, ((((w.alloc o).alloc p).alloc q).alloc r).cell? ⟨b, x, none⟩ = w.cell? ⟨b, x, none⟩ := fun o p q r _ => (Bl.more (Bl.more (Bl.more (Bl.more (Bl.refl w) o) p) q) r).cell (by exact h)

/-- a node of a graph -/
structure Nd where
  op : Int
  a : Int
  b : Int
  k : Int
  rows : Int
  cols : Int
def Nd.vals (n : Nd) : Array Value := #[.int .i64 n.op, .int .i64 n.a, .int .i64 n.b, .int .i64 n.k, .int .i64 n.rows, .int .i64 n.cols]
/-- node i of a slice that begins at ao -/
def NodeAt (w : World) (ao : Option Addr) (i : Nat) (n : Nd) : Prop :=
  ∃ b off, ao = some ⟨b, off, none⟩ ∧ b < w.heap.size ∧ w.cell? ⟨b, off + i * 6, none⟩ = some (.int .i64 n.op) ∧ w.cell? ⟨b, off + i * 6 + 1, none⟩ = some (.int .i64 n.a) ∧ w.cell? ⟨b, off + i * 6 + 2, none⟩ = some (.int .i64 n.b)
    ∧ w.cell? ⟨b, off + i * 6 + 3, none⟩ = some (.int .i64 n.k) ∧ w.cell? ⟨b, off + i * 6 + 4, none⟩ = some (.int .i64 n.rows) ∧ w.cell? ⟨b, off + i * 6 + 5, none⟩ = some (.int .i64 n.cols)
def Nodes (w : World) (ao : Option Addr) (ns : List Nd) : Prop := ∀ i, (h : i < ns.length) → NodeAt w ao i ns[i]
theorem NodeAt.below {w w' : World} {ao : Option Addr} {i : Nat} {n : Nd} (h : NodeAt w ao i n) (hb : Below w.heap.size w w') : NodeAt w' ao i n := by
  obtain ⟨b, off, rfl, hs, c0, c1, c2, c3, c4, c5⟩ := h
  refine ⟨b, off, rfl, Nat.lt_of_lt_of_le hs hb.size, ?_, ?_, ?_, ?_, ?_, ?_⟩ <;> rw [hb.cell (by exact hs)] <;> assumption
theorem Nodes.below {w w' : World} {ao : Option Addr} {ns : List Nd} (h : Nodes w ao ns) (hb : Below w.heap.size w w') : Nodes w' ao ns := fun i hi => (h i hi).below hb

def partsZ (op : Int) : Int := if op = 3 ∨ op = 4 ∨ op = 5 ∨ op = 7 then 2 else if op = 6 ∨ op = 8 then 1 else 0
def countedB (op : Int) : Bool := decide (op = 1 ∨ op = 2 ∨ op = 6)
def sizedB (op : Int) : Bool := decide (op = 1 ∨ op = 2)
def sideB (n : Int) : Bool := decide (1 ≤ n ∧ n ≤ 4)
def aheadB (k n : Int) : Bool := decide (0 ≤ k ∧ k < n)
def cappedZ (n : Int) : Int := if n > 1000000000000 then 1000000000000 else n
def ownZ (op r c i : Int) : Int := if op = 1 then 0 else if op = 2 then 1 else if op = 7 then 2 * r * c * i else r * c

set_option maxHeartbeats 400000 in
theorem parts_any (op : Int) (w : World) :
    Calls Tryz.prog 19 #[.int .i64 op] w fun e w' => e = .returned (.int .i64 (partsZ op)) ∧ w' = w := by
  go_enter Tryz.func19, Tryz.ntmps19
  go_wp2
  all_goals
    go_ret
    exact ⟨ret_int (by simp only [beq_iff_eq, beq_eq_false_iff_ne] at *; simp [partsZ, *]), rfl⟩

set_option maxHeartbeats 400000 in
theorem side_any (op : Int) (w : World) :
    Calls Tryz.prog 27 #[.int .i64 op] w fun e w' => e = .returned (.bool (sideB op)) ∧ w' = w := by
  go_enter Tryz.func27, Tryz.ntmps27
  go_wp2
  all_goals
    go_ret
    exact ⟨ret_bool (by simp only [sideB]; rw [Bool.eq_iff_iff]; simp; omega), rfl⟩
set_option maxHeartbeats 400000 in
theorem ahead_any (k n : Int) (w : World) :
    Calls Tryz.prog 20 #[.int .i64 k, .int .i64 n] w fun e w' => e = .returned (.bool (aheadB k n)) ∧ w' = w := by
  go_enter Tryz.func20, Tryz.ntmps20
  go_wp2
  all_goals
    go_ret
    exact ⟨ret_bool (by simp only [aheadB]; rw [Bool.eq_iff_iff]; simp; omega), rfl⟩
def sameNd (a b : Nd) : Bool := a.op == b.op && a.a == b.a && a.b == b.b && a.k == b.k && a.rows == b.rows && a.cols == b.cols
theorem sameNd_iff (x y : Nd) : sameNd x y = true ↔ x = y := by
  cases x; cases y; simp [sameNd]; constructor
  · rintro ⟨⟨⟨⟨⟨a, b⟩, c⟩, d⟩, e⟩, f⟩; exact ⟨a, b, c, d, e, f⟩
  · rintro ⟨a, b, c, d, e, f⟩; exact ⟨⟨⟨⟨⟨a, b⟩, c⟩, d⟩, e⟩, f⟩

theorem underNd : Tryz.prog.underlying 42 = some (.struct (Tryz.prog.fieldsOf 42)) := by kernel_rfl
theorem stoodNd : Tryz.prog.stoodInHeld 42 = false := by kernel_rfl
theorem guardNd : Tryz.prog.eqGuardType Tryz.prog.depth 42 = false := by kernel_rfl
theorem fldsNd : (Tryz.prog.fieldsOf 42).toList.map (fun f => (f.name, f.type, f.offset)) = [("Op", 3, 0), ("A", 3, 1), ("B", 3, 2), ("K", 3, 3), ("Rows", 3, 4), ("Cols", 3, 5)] := by kernel_rfl
theorem list6 {α : Type} {l : List α} (h : l.length = 6) : ∃ a b c d e f, l = [a, b, c, d, e, f] := by
  match l, h with
  | [a, b, c, d, e, f], _ => exact ⟨a, b, c, d, e, f, rfl⟩

theorem run_neq_nd (x y : Nd) (w : World) : (binOp .neq 42 (.agg x.vals) (.agg y.vals)).run Tryz.prog w = .ok (.bool (!sameNd x y)) w := by
  rw [run_neq_struct, run_equalIn_struct w 9999 42 _ _ underNd stoodNd]
  have h := fldsNd
  generalize (Tryz.prog.fieldsOf 42).toList = fs at h
  have hlen : fs.length = 6 := by simpa using congrArg List.length h
  obtain ⟨f0, f1, f2, f3, f4, f5, rfl⟩ := list6 hlen
  simp only [List.map_cons, List.map_nil, List.cons.injEq, Prod.mk.injEq, and_true] at h
  obtain ⟨⟨n0, t0, o0⟩, ⟨n1, t1, o1⟩, ⟨n2, t2, o2⟩, ⟨n3, t3, o3⟩, ⟨n4, t4, o4⟩, ⟨n5, t5, o5⟩⟩ := h
  simp only [Op.eqFields, n0, t0, o0, n1, t1, o1, n2, t2, o2, n3, t3, o3, n4, t4, o4, n5, t5, o5, Nd.vals]
  simp [go_sem, part, sameNd]
  by_cases e0 : x.op = y.op <;> by_cases e1 : x.a = y.a <;> by_cases e2 : x.b = y.b <;> by_cases e3 : x.k = y.k <;> by_cases e4 : x.rows = y.rows <;> by_cases e5 : x.cols = y.cols <;> simp [e0, e1, e2, e3, e4, e5]

-- the law looks at two slices of the same nodes
set_option maxHeartbeats 400000 in
theorem same_refl (ns : List Nd) (ao bo : Option Addr) (ca cb : Nat) (w : World) (ha : Nodes w ao ns) (hb : Nodes w bo ns) (h1 : ns.length * 48 ≤ 140737488351232) :
    Calls Tryz.prog 8 #[.slice ao ns.length ca, .slice bo ns.length cb] w fun e w' => e = .returned (.bool true) ∧ ∃ n, w' = w.drewN n := by
  go_enter Tryz.func8, Tryz.ntmps8
  go_wp2
  go_loopw [5] (fun i wr => ∃ k : Nat, k ≤ ns.length ∧ i = .int .i64 k ∧ ∃ n, wr = w.drewN n) (fun i _ => ns.length - (intOf i).toNat)
  case atStart => exact ⟨0, Nat.zero_le _, rfl, 0, rfl⟩
  case round =>
    obtain ⟨k, hk, rfl, n, rfl⟩ := hrel
    by_cases hlt : k < ns.length
    · obtain ⟨b, off, rfl, hbs, c0, c1, c2, c3, c4, c5⟩ := ha k hlt
      obtain ⟨b', off', rfl, hbs', d0, d1, d2, d3, d4, d5⟩ := hb k hlt
      have hr : ∀ w, (binOp .neq 42 (.agg #[.int .i64 ns[k].op, .int .i64 ns[k].a, .int .i64 ns[k].b, .int .i64 ns[k].k, .int .i64 ns[k].rows, .int .i64 ns[k].cols]) (.agg #[.int .i64 ns[k].op, .int .i64 ns[k].a, .int .i64 ns[k].b, .int .i64 ns[k].k, .int .i64 ns[k].rows, .int .i64 ns[k].cols])).run Tryz.prog w = .ok (.bool false) w := fun w => by
        have := run_neq_nd ns[k] ns[k] w
        rwa [(sameNd_iff ns[k] ns[k]).2 rfl] at this
      have hg : ∀ (x y : Operand) xs ys w, (eqGuard .neq 42 x y (.agg xs) (.agg ys)).run Tryz.prog w = .ok () w := fun x y xs ys w => run_eqGuard_agg w _ _ x y xs ys guardNd
      go_wp2
      go_quiet ((fail))
      go_wp2
      go_roundw
      case rel => exact ⟨k + 1, by omega, by go_num, _, rfl⟩
      case measure => simp [intOf]; omega
    · go_wp2
      go_ret
      exact ⟨rfl, n, rfl⟩
end Go.Proofs.YtlcmllmphpllbaaGreatDoor
