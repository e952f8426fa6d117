/- thriftref.place for every Op; the row of matrices that thriftref.Run grows, in plain words. -/
import Derived.Test.YtanlmfcllebopaaZg
import Derived.Test.YtanlmfcllebopaaWe
import Derived.Test.YtanlmfcllebopaaZm
namespace Go.Proofs.Ytanlmfcllebopaa
open Go.RowKit

theorem rplace_all (n : Nd) (I A B : Mx) (ao bo : Option Addr) (ac bc : Nat) (i k : Int) (w : World) (ho : knownP n.op) (h1 : ¬ n.op = 1) (hA : 0 < partsZ n.op → Ints w ao A.nums) (hB : 1 < partsZ n.op → Ints w bo B.nums) (hf : Fits n I A B i k) :
    Calls Try.prog 26 #[.agg #[.int .i64 n.op, .int .i64 n.a, .int .i64 n.b, .int .i64 n.k, .int .i64 n.rows, .int .i64 n.cols], .agg #[.int .i64 A.rows, .int .i64 A.cols, .slice ao A.nums.length ac], .agg #[.int .i64 B.rows, .int .i64 B.cols, .slice bo B.nums.length bc], .int .i64 i, .int .i64 k] w fun e w' => e = .returned (.int .i64 (valZ n I A B i k)) ∧ Below w.heap.size w w' := by
  obtain ⟨f1, f3, f6, f7, f8⟩ := hf
  rw [valZ, if_neg h1]
  rcases ho with e | e | e | e | e | e | e | e
  · exact absurd e h1
  · exact rplace_fill n A B ao bo ac bc i k w e
  · exact rplace_two n A B ao bo ac bc i k w (hA (by rw [e]; decide)) (hB (by rw [e]; decide)) (by omega) (f3 (by omega))
  · exact rplace_two n A B ao bo ac bc i k w (hA (by rw [e]; decide)) (hB (by rw [e]; decide)) (by omega) (f3 (by omega))
  · exact rplace_two n A B ao bo ac bc i k w (hA (by rw [e]; decide)) (hB (by rw [e]; decide)) (by omega) (f3 (by omega))
  · exact rplace_scale n A B ao bo ac bc i k w (hA (by rw [e]; decide)) e (f6 e)
  · exact rplace_times n A B ao bo ac bc i k w (hA (by rw [e]; decide)) (hB (by rw [e]; decide)) e (f7 e)
  · exact rplace_turn n A B ao bo ac bc i k w (hA (by rw [e]; decide)) e (f8 e)
/-- a row of matrices that is grown, each with a list of its own -/
def RowOf (w : World) (base : Nat) (ms : List Mx) (v : Value) : Prop :=
  ∃ vs : List Value, vs.length = ms.length ∧ w.ownsRow base 34 3 v ms.length (matCells ms vs) ∧
    ∀ j, j < ms.length → w.ownsRow base 3 1 (vs.getD j .nilIface) (partM ms j).nums.length ((partM ms j).nums.map (Value.int .i64))
theorem RowOf.below {w w' : World} {base : Nat} {ms : List Mx} {v : Value} (h : RowOf w base ms v) (hb : Below w.heap.size w w') : RowOf w' base ms v := by
  obtain ⟨vs, h1, h3, h4⟩ := h
  exact ⟨vs, h1, ownsRow_below h3 hb, fun j hj => ownsRow_below (h4 j hj) hb⟩
theorem RowOf.shape {w : World} {base : Nat} {ms : List Mx} {v : Value} (h : RowOf w base ms v) : ∃ ao cap, v = .slice ao ms.length cap := by
  obtain ⟨vs, h1, h3, h4⟩ := h
  exact owns_shape h3
/-- a matrix in its row -/
theorem RowOf.part {w : World} {base : Nat} {ms : List Mx} {v : Value} (h : RowOf w base ms v) (j : Nat) (hj : j < ms.length) :
    ∃ gl cap, v = .slice (some ⟨gl, 0, none⟩) ms.length cap ∧ gl < w.heap.size ∧ ∃ ao ac, w.cell? ⟨gl, j * 3, none⟩ = some (.int .i64 (partM ms j).rows) ∧ w.cell? ⟨gl, j * 3 + 1, none⟩ = some (.int .i64 (partM ms j).cols) ∧ w.cell? ⟨gl, j * 3 + 2, none⟩ = some (.slice ao (partM ms j).nums.length ac) ∧ Ints w ao (partM ms j).nums := by
  obtain ⟨vs, h1, h3, h4⟩ := h
  obtain ⟨gl, cap, rfl, _, hl⟩ := h3.form (by omega)
  obtain ⟨c0, c1, c2⟩ := matCells_at ms vs j (by omega) (by omega)
  obtain ⟨ao, ac, hv, hi⟩ := ints_of (h4 j hj)
  refine ⟨gl, cap, rfl, hl, ao, ac, ?_, ?_, ?_, hi⟩
  · rw [h3.cellAt (j * 3) (by omega), c0]; simp [partM]
  · rw [h3.cellAt (j * 3 + 1) (by omega), c1]; simp [partM]
  · rw [h3.cellAt (j * 3 + 2) (by omega), c2, hv]
theorem RowOf.partOwn {w : World} {base : Nat} {ms : List Mx} {v : Value} (h : RowOf w base ms v) (j : Nat) (hj : j < ms.length) :
    ∃ gl cap, v = .slice (some ⟨gl, 0, none⟩) ms.length cap ∧ gl < w.heap.size ∧ ∃ ao ac, w.cell? ⟨gl, j * 3, none⟩ = some (.int .i64 (partM ms j).rows) ∧ w.cell? ⟨gl, j * 3 + 1, none⟩ = some (.int .i64 (partM ms j).cols) ∧ w.cell? ⟨gl, j * 3 + 2, none⟩ = some (.slice ao (partM ms j).nums.length ac) ∧ w.ownsRow base 3 1 (.slice ao (partM ms j).nums.length ac) (partM ms j).nums.length ((partM ms j).nums.map (Value.int .i64)) := by
  obtain ⟨vs, h1, h3, h4⟩ := h
  obtain ⟨gl, cap, rfl, _, hl⟩ := h3.form (by omega)
  obtain ⟨c0, c1, c2⟩ := matCells_at ms vs j (by omega) (by omega)
  obtain ⟨ao, ac, hv, hi⟩ := ints_of (h4 j hj)
  refine ⟨gl, cap, rfl, hl, ao, ac, ?_, ?_, ?_, by rw [← hv]; exact h4 j hj⟩
  · rw [h3.cellAt (j * 3) (by omega), c0]; simp [partM]
  · rw [h3.cellAt (j * 3 + 1) (by omega), c1]; simp [partM]
  · rw [h3.cellAt (j * 3 + 2) (by omega), c2, hv]
theorem RowOf.new (w : World) (base : Nat) : RowOf w base [] (.slice none 0 0) :=
  ⟨[], rfl, by simpa [matCells] using World.ownsRow_nil w base 34 3, fun j hj => absurd hj (Nat.not_lt_zero _)⟩
theorem row_kind {w : World} {B : Nat} {e : TypeId} {size : Nat} {v : Value} {n : Nat} {xs : List Value} (h : w.ownsRow B e size v n xs) {g : Nat} (hg : v.ownBlock = some g) : ∃ c fz, w.heap[g]? = some (.cells c e fz) := by
  rcases h.2 with ⟨rfl, _⟩ | ⟨g', cap, cur, rfl, _, hgg, _⟩
  · cases hg
  · cases hg
    exact ⟨cur, (0, 0), hgg⟩
theorem row_apart {w : World} {B B' : Nat} {e e' : TypeId} {size size' : Nat} {v v' : Value} {n n' : Nat} {xs xs' : List Value} (h : w.ownsRow B e size v n xs) (h' : w.ownsRow B' e' size' v' n' xs') (hne : e ≠ e') : v.ownBlock = none ∨ v.ownBlock ≠ v'.ownBlock := by
  cases hv : v.ownBlock with
  | none => exact .inl rfl
  | some g =>
    refine .inr fun e2 => ?_
    obtain ⟨c, fz, h1⟩ := row_kind h hv
    obtain ⟨c', fz', h2⟩ := row_kind h' e2.symm
    rw [h1] at h2
    simp only [Option.some.injEq, Obj.cells.injEq] at h2
    exact hne h2.2.1
/-- one more -/
theorem RowOf.push {w w0 w1 : World} {base : Nat} {ms : List Mx} {v v' vx : Value} {vs : List Value} {x : Mx} (hvl : vs.length = ms.length) (hrow : w.ownsRow base 34 3 v ms.length (matCells ms vs))
    (hnums : ∀ j, j < ms.length → w.ownsRow base 3 1 (vs.getD j .nilIface) (partM ms j).nums.length ((partM ms j).nums.map (Value.int .i64)))
    (hv : w.ownsRow base 3 1 vx x.nums.length (x.nums.map (Value.int .i64))) (h0 : Below w.heap.size w w0) (hg : w0.grownBy w1 v.ownBlock) (ho : w1.ownsRow base 34 3 v' (ms.length + 1) (matCells ms vs ++ [.int .i64 x.rows, .int .i64 x.cols, vx])) : RowOf w1 base (ms ++ [x]) v' := by
  have keep : ∀ {u : Value} {n : Nat} {xs : List Value}, w.ownsRow base 3 1 u n xs → w1.ownsRow base 3 1 u n xs := fun {u n xs} h => (ownsRow_below h h0).kept hg (row_apart h hrow (by decide))
  refine ⟨vs ++ [vx], by simp [hvl], ?_, fun j hj => ?_⟩
  · rw [matCells_app _ _ _ _ (by omega)]; simpa using ho
  by_cases e : j = ms.length
  · subst e
    have e1 : (vs ++ [vx]).getD ms.length .nilIface = vx := by simp [List.getD, ← hvl]
    have e2 : partM (ms ++ [x]) (ms.length : Nat) = x := by simp [partM, List.getD]
    rw [e1, e2]
    exact keep hv
  · have hjm : j < ms.length := by simp at hj; omega
    have e1 : (vs ++ [vx]).getD j .nilIface = vs.getD j .nilIface := by simp only [List.getD]; rw [List.getElem?_append_left (by omega)]
    have e2 : partM (ms ++ [x]) j = partM ms j := by simp only [partM, List.getD, Int.toNat_natCast]; rw [List.getElem?_append_left (by omega)]
    rw [e1, e2]
    exact keep (hnums j hjm)
theorem NdCell.onBlock {w w' : World} {b : Nat} {n : Nd} (h : NdCell w b n) (hs : w.heap.size ≤ w'.heap.size) (hb : w'.heap[b]? = w.heap[b]?) : NdCell w' b n := by
  obtain ⟨hlt, c0, c1, c2, c3, c4, c5, hf⟩ := h
  exact ⟨Nat.lt_of_lt_of_le hlt hs, (World.cell?_of_block (a := ⟨b, 0, none⟩) hb).trans c0, (World.cell?_of_block (a := ⟨b, 1, none⟩) hb).trans c1, (World.cell?_of_block (a := ⟨b, 2, none⟩) hb).trans c2, (World.cell?_of_block (a := ⟨b, 3, none⟩) hb).trans c3, (World.cell?_of_block (a := ⟨b, 4, none⟩) hb).trans c4, (World.cell?_of_block (a := ⟨b, 5, none⟩) hb).trans c5, fun j => (World.frozen?_of_block (a := ⟨b, j, none⟩) hb).trans (hf j)⟩
/-- within the rounds over a node's rows and columns: what stood before w2 stands, the node and its matrix are in the two blocks behind it -/
structure LoopInv (w2 wk : World) (n : Nd) (l : List Int) (xo : Option Addr) (xc : Nat) : Prop where
  made : Made wk (w2.heap.size + 1 + 1) (w2.heap.size + 1) n.rows n.cols (.slice xo l.length xc) l
  node : NdCell wk w2.heap.size n
  below : Below w2.heap.size w2 wk
theorem LoopInv.on {w2 wk w3 : World} {n : Nd} {l : List Int} {xo : Option Addr} {xc : Nat} (h : LoopInv w2 wk n l xo xc) (hb : Below wk.heap.size wk w3) : LoopInv w2 w3 n l xo xc :=
  ⟨h.made.below hb, h.node.below hb, Bl.trans h.below hb⟩
theorem LoopInv.start (w2 : World) (n : Nd) (t t' : TypeId) : LoopInv w2 ((w2.alloc (.cells #[.int .i64 n.op, .int .i64 n.a, .int .i64 n.b, .int .i64 n.k, .int .i64 n.rows, .int .i64 n.cols] t)).alloc (.cells #[.int .i64 n.rows, .int .i64 n.cols, .slice none 0 0] t')) n [] none 0 :=
  ⟨Made.new _ n.rows n.cols _ _ (by simp), NdCell.below ⟨by simp, by simp [go_sem], by simp [go_sem], by simp [go_sem], by simp [go_sem], by simp [go_sem], by simp [go_sem], by simp [go_sem]⟩ (Bl.more (Bl.refl _) _), Bl.more (Bl.more (Bl.refl _) _) _⟩
theorem LoopInv.store {w2 w3 w9 : World} {n : Nd} {l : List Int} {xo : Option Addr} {xc : Nat} {o : Obj} (h : LoopInv w2 w3 n l xo xc) (hgrow : (w3.alloc o).grownBy w9 (Value.slice xo l.length xc).ownBlock) : w9.cell? ⟨w2.heap.size + 1, 2, none⟩ = some (.slice xo l.length xc) ∧ ∀ j, w9.frozen? ⟨w2.heap.size + 1, j, none⟩ = false := by
  obtain ⟨h1, h2, h3, h4, h5, h6, h7, h8⟩ := h.made
  have hne : some (w2.heap.size + 1) ≠ (Value.slice xo l.length xc).ownBlock := fun e => by have := h7.lt _ e.symm; omega
  exact ⟨(World.cell?_of_block (a := ⟨w2.heap.size + 1, 2, none⟩) (hgrow.block _ (by simp; omega) hne)).trans (((Bl.more (Bl.refl w3) o).cell (by exact h2)).trans h6), fun j => (World.frozen?_of_block (a := ⟨w2.heap.size + 1, j, none⟩) (hgrow.block _ (by simp; omega) hne)).trans (((Bl.more (Bl.refl w3) o).frozen (by exact h2)).trans (h8 j))⟩
theorem LoopInv.push {w2 w3 w9 : World} {n : Nd} {l : List Int} {xo : Option Addr} {xc g9 cap9 : Nat} {o : Obj} {y : Int} (h : LoopInv w2 w3 n l xo xc) (hown : w9.ownsRow (w2.heap.size + 1 + 1) 3 1 (.slice (some ⟨g9, 0, none⟩) (l.length + 1) cap9) (l.length + 1) (l.map (Value.int .i64) ++ [.int .i64 y]))
    (hgrow : (w3.alloc o).grownBy w9 (Value.slice xo l.length xc).ownBlock) : LoopInv w2 (w9.setCell ⟨w2.heap.size + 1, 2, none⟩ (.slice (some ⟨g9, 0, none⟩) (l.length + 1) cap9)) n (l ++ [y]) (some ⟨g9, 0, none⟩) cap9 := by
  have P := made_push h.made hown rfl hgrow
  have Q := keptBut_pushAt (bb := w2.heap.size + 1) (off := 2) (KeptBut.of (Bl.refl w3)) hgrow (v' := .slice (some ⟨g9, 0, none⟩) (l.length + 1) cap9)
  have hrow := h.made.2.2.2.2.2.2.1.lt
  have hz := h.made.2.2.1
  refine ⟨by rw [List.length_append]; exact P, h.node.onBlock Q.1.size (Q.2 w2.heap.size (by omega) (by omega) (fun e => by have := hrow _ e.symm; omega)), h.below.trans (Q.below (by omega) (fun k e => by have := hrow k e; omega) (by omega))⟩
end Go.Proofs.Ytanlmfcllebopaa
