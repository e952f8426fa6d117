/- graphs.Run, walked. -/
import Derived.Test.YtanlmfcllebopaaZe
import Derived.OwnWalk
namespace Go.Proofs.Ytanlmfcllebopaa
open Go.RowKit

/-- the cells of a row of matrices, their lists being vs -/
def matCells : List Mx → List Value → List Value
  | m :: ms, v :: vs => .int .i64 m.rows :: .int .i64 m.cols :: v :: matCells ms vs
  | _, _ => []
theorem matCells_len : ∀ (ms : List Mx) (vs : List Value), ms.length = vs.length → (matCells ms vs).length = ms.length * 3
  | [], [], _ => rfl
  | [], _ :: _, h => by simp at h
  | _ :: _, [], h => by simp at h
  | m :: ms, v :: vs, h => by
    have := matCells_len ms vs (by simpa using h)
    simp only [matCells, List.length_cons, this]; omega
theorem matCells_app : ∀ (ms : List Mx) (vs : List Value) (m : Mx) (v : Value), ms.length = vs.length → matCells (ms ++ [m]) (vs ++ [v]) = matCells ms vs ++ [.int .i64 m.rows, .int .i64 m.cols, v]
  | [], [], _, _, _ => rfl
  | [], _ :: _, _, _, h => by simp at h
  | _ :: _, [], _, _, h => by simp at h
  | x :: ms, y :: vs, m, v, h => by
    have := matCells_app ms vs m v (by simpa using h)
    simp only [List.cons_append, matCells, this]
theorem matCells_at : ∀ (ms : List Mx) (vs : List Value) (j : Nat), ms.length = vs.length → j < ms.length → (matCells ms vs)[j * 3]? = some (.int .i64 (ms.getD j zeroMx).rows) ∧ (matCells ms vs)[j * 3 + 1]? = some (.int .i64 (ms.getD j zeroMx).cols) ∧ (matCells ms vs)[j * 3 + 2]? = some (vs.getD j .nilIface)
  | [], _, _, _, h => by simp at h
  | _ :: _, [], _, h, _ => by simp at h
  | m :: ms, v :: vs, 0, _, _ => by simp [matCells]
  | m :: ms, v :: vs, j + 1, h, hj => by
    have := matCells_at ms vs j (by simpa using h) (by simpa using hj)
    have e : (j + 1) * 3 = j * 3 + 1 + 1 + 1 := by omega
    rw [e]
    simpa [matCells] using this
theorem set3 (p : List Value) (x0 x1 x2 a b c : Value) (r : List Value) (m : Nat) (h : p.length = m * 3) :
    (((p ++ x0 :: x1 :: x2 :: r).set (m * 3) a).set (m * 3 + 1) b).set (m * 3 + 2) c = p ++ [a, b, c] ++ r := by
  rw [← h]
  simp [List.set_append_right]
theorem infoMx : (Try.prog.info? 34).map (fun i => (i.zero, i.size, i.bytes)) = some (some (.agg #[.int .i64 0, .int .i64 0, .slice none 0 0]), 3, 40) := by kernel_rfl
theorem underMxs : Try.prog.underlying 23 = some (.slice 34) := by kernel_rfl
theorem ints_of {w : World} {base : Nat} {v : Value} {l : List Int} (h : w.ownsRow base 3 1 v l.length (l.map (Value.int .i64))) : ∃ ao cap, v = .slice ao l.length cap ∧ Ints w ao l := by
  obtain ⟨ao, cap, hv, hview⟩ := ints_view rfl h
  refine ⟨ao, cap, hv, fun j hj => ?_⟩
  obtain ⟨g, rfl, hg, hc⟩ := hview j hj
  refine ⟨g, 0, rfl, hg, ?_⟩
  rw [Nat.zero_add, hc]
  simp [hj]
theorem uses_lit (op f : Int) (b : Nat) (w : World) (hs : SaysAt w b op) :
    Calls Try.prog 42 #[.agg #[.string (bs (wordL op)), .slice (some ⟨b, 0, none⟩) (saysZ op).length (saysZ op).length, .func (.func (shapeF op)) #[] #[], .func (.func (costF op)) #[] #[], .func (.func (atF op)) #[] #[]], .int .i64 f] w fun e w' => e = .returned (.bool (decide (f ∈ saysZ op))) ∧ w' = w.alloc (.cells #[.string (bs (wordL op)), .slice (some ⟨b, 0, none⟩) (saysZ op).length (saysZ op).length, .func (.func (shapeF op)) #[] #[], .func (.func (costF op)) #[] #[], .func (.func (atF op)) #[] #[]] 85) := uses_any op f b w hs
/-- the row of what was given so far, in block gb -/
def Given (w : World) (gb : Nat) (ns : List Nd) (ins : List Mx) (m : Nat) : Prop :=
  ∃ (vs rest : List Value), vs.length = m ∧ rest.length = (ns.length - m) * 3 ∧ w.ownsRow gb 34 3 (.slice (some ⟨gb, 0, none⟩) ns.length ns.length) ns.length (matCells (gives ns ins m) vs ++ rest) ∧
    ∀ j, j < m → w.ownsRow (gb + 1) 3 1 (vs.getD j .nilIface) (partM (gives ns ins m) j).nums.length ((partM (gives ns ins m) j).nums.map (Value.int .i64))
theorem Given.below {w w' : World} {gb : Nat} {ns : List Nd} {ins : List Mx} {m : Nat} (h : Given w gb ns ins m) (hb : Below w.heap.size w w') : Given w' gb ns ins m := by
  obtain ⟨vs, rest, h1, h2, h3, h4⟩ := h
  exact ⟨vs, rest, h1, h2, ownsRow_below h3 hb, fun j hj => ownsRow_below (h4 j hj) hb⟩
/-- a matrix that was given, in its row -/
theorem Given.part {w : World} {gb : Nat} {ns : List Nd} {ins : List Mx} {m : Nat} (h : Given w gb ns ins m) (hm : m ≤ ns.length) (j : Nat) (hj : j < m) :
    gb < w.heap.size ∧ ∃ ao ac, w.cell? ⟨gb, j * 3, none⟩ = some (.int .i64 (partM (gives ns ins m) j).rows) ∧ w.cell? ⟨gb, j * 3 + 1, none⟩ = some (.int .i64 (partM (gives ns ins m) j).cols) ∧ w.cell? ⟨gb, j * 3 + 2, none⟩ = some (.slice ao (partM (gives ns ins m) j).nums.length ac) ∧ Ints w ao (partM (gives ns ins m) j).nums := by
  obtain ⟨vs, rest, h1, h2, h3, h4⟩ := h
  have hg := gives_len ns ins m
  obtain ⟨c0, c1, c2⟩ := matCells_at (gives ns ins m) vs j (by omega) (by omega)
  have hl := matCells_len (gives ns ins m) vs (by omega)
  obtain ⟨ao, ac, hv, hi⟩ := ints_of (h4 j hj)
  refine ⟨(h3.lt gb rfl).2, ao, ac, ?_, ?_, ?_, hi⟩
  · rw [h3.cellAt (j * 3) (by omega), List.getElem?_append_left (by omega), c0]; simp [partM]
  · rw [h3.cellAt (j * 3 + 1) (by omega), List.getElem?_append_left (by omega), c1]; simp [partM]
  · rw [h3.cellAt (j * 3 + 2) (by omega), List.getElem?_append_left (by omega), c2, hv]
theorem Given.new {w0 : World} {gb : Nat} {ns : List Nd} {ins : List Mx} {xs : List Value} (h : w0.ownsRow gb 34 3 (.slice (some ⟨gb, 0, none⟩) ns.length ns.length) ns.length xs) : Given w0 gb ns ins 0 :=
  ⟨[], xs, rfl, by have := h.1; omega, by simpa [gives, matCells] using h, fun j hj => absurd hj (Nat.not_lt_zero _)⟩
/-- one more is given -/
theorem Given.push {w : World} {gb : Nat} {ns : List Nd} {ins : List Mx} {m : Nat} {v : Value} (h : Given w gb ns ins m) (hm : m < ns.length) (x : Mx) (hx : gives ns ins (m + 1) = gives ns ins m ++ [x])
    (hv : w.ownsRow (gb + 1) 3 1 v x.nums.length (x.nums.map (Value.int .i64))) :
    Given (((w.setCell ⟨gb, m * 3, none⟩ (.int .i64 x.rows)).setCell ⟨gb, m * 3 + 1, none⟩ (.int .i64 x.cols)).setCell ⟨gb, m * 3 + 2, none⟩ v) gb ns ins (m + 1) := by
  obtain ⟨vs, rest, h1, h2, h3, h4⟩ := h
  have hg := gives_len ns ins m
  have hl := matCells_len (gives ns ins m) vs (by omega)
  obtain ⟨x0, x1, x2, r, rfl⟩ : ∃ x0 x1 x2 r, rest = x0 :: x1 :: x2 :: r := by
    match rest, h2 with
    | x0 :: x1 :: x2 :: r, _ => exact ⟨x0, x1, x2, r, rfl⟩
    | [], h => simp at h; omega
    | [_], h => simp at h; omega
    | [_, _], h => simp at h; omega
  have o3 := (((h3.stored (m * 3) (.int .i64 x.rows)).1.stored (m * 3 + 1) (.int .i64 x.cols)).1.stored (m * 3 + 2) v).1
  rw [set3 _ _ _ _ _ _ _ _ m (by omega), ← matCells_app _ _ _ _ (by omega), ← hx] at o3
  have off : ∀ {v' : Value} {n : Nat} {xs : List Value}, w.ownsRow (gb + 1) 3 1 v' n xs → (((w.setCell ⟨gb, m * 3, none⟩ (.int .i64 x.rows)).setCell ⟨gb, m * 3 + 1, none⟩ (.int .i64 x.cols)).setCell ⟨gb, m * 3 + 2, none⟩ v).ownsRow (gb + 1) 3 1 v' n xs := fun h =>
    ownsRow_setCell_below (ownsRow_setCell_below (ownsRow_setCell_below h (by dsimp only; omega) _) (by dsimp only; omega) _) (by dsimp only; omega) _
  refine ⟨vs ++ [v], r, by simp [h1], by simp at h2; omega, o3, fun j hj => ?_⟩
  by_cases e : j = m
  · subst e
    have e1 : (vs ++ [v]).getD j .nilIface = v := by simp [List.getD, ← h1]
    have e2 : partM (gives ns ins (j + 1)) j = x := by rw [hx]; simp [partM, List.getD, hg]
    rw [e1, e2]
    exact off hv
  · have hjm : j < m := by omega
    have e1 : (vs ++ [v]).getD j .nilIface = vs.getD j .nilIface := by simp only [List.getD]; rw [List.getElem?_append_left (by omega)]
    have e2 : partM (gives ns ins (m + 1)) j = partM (gives ns ins m) j := by rw [hx]; simp only [partM, List.getD, Int.toNat_natCast]; rw [List.getElem?_append_left (by omega)]
    rw [e1, e2]
    exact off (h4 j hjm)
end Go.Proofs.Ytanlmfcllebopaa
