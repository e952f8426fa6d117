/- Kind.Gives, walked, for whatever method stands in the table. -/
import Derived.Test.YtanlmfcllebopaaZb
import Derived.Test.YtanlmfcllebopaaXh
import Derived.Test.YtanlmfcllebopaaWk
import Derived.Shelf.Abstract
namespace Go.Proofs.Ytanlmfcllebopaa
open Go.RowKit

/-- a Work in a block of its own -/
def WorkCell (w : World) (b : Nat) (n : Nd) (I A B : Mx) (io ao bo : Option Addr) (ic ac bc : Nat) : Prop := b < w.heap.size ∧ w.cell? ⟨b, 0, none⟩ = some (.int .i64 n.op) ∧ w.cell? ⟨b, 1, none⟩ = some (.int .i64 n.a) ∧ w.cell? ⟨b, 2, none⟩ = some (.int .i64 n.b) ∧ w.cell? ⟨b, 3, none⟩ = some (.int .i64 n.k) ∧ w.cell? ⟨b, 4, none⟩ = some (.int .i64 n.rows) ∧ w.cell? ⟨b, 5, none⟩ = some (.int .i64 n.cols) ∧ w.cell? ⟨b, 6, none⟩ = some (.int .i64 I.rows) ∧ w.cell? ⟨b, 7, none⟩ = some (.int .i64 I.cols) ∧ w.cell? ⟨b, 8, none⟩ = some (.slice io I.nums.length ic) ∧ w.cell? ⟨b, 9, none⟩ = some (.int .i64 A.rows) ∧ w.cell? ⟨b, 10, none⟩ = some (.int .i64 A.cols) ∧ w.cell? ⟨b, 11, none⟩ = some (.slice ao A.nums.length ac) ∧ w.cell? ⟨b, 12, none⟩ = some (.int .i64 B.rows) ∧ w.cell? ⟨b, 13, none⟩ = some (.int .i64 B.cols) ∧ w.cell? ⟨b, 14, none⟩ = some (.slice bo B.nums.length bc)
theorem WorkCell.ofBlock {w w' : World} {b : Nat} {n : Nd} {I A B : Mx} {io ao bo : Option Addr} {ic ac bc : Nat} (h : WorkCell w b n I A B io ao bo ic ac bc) (hs : w.heap.size ≤ w'.heap.size) (hb : w'.heap[b]? = w.heap[b]?) : WorkCell w' b n I A B io ao bo ic ac bc := by
  obtain ⟨hlt, c0, c1, c2, c3, c4, c5, c6, c7, c8, c9, c10, c11, c12, c13, c14⟩ := h
  exact ⟨Nat.lt_of_lt_of_le hlt hs, (World.cell?_of_block (a := ⟨b, 0, none⟩) hb).trans c0, (World.cell?_of_block (a := ⟨b, 1, none⟩) hb).trans c1, (World.cell?_of_block (a := ⟨b, 2, none⟩) hb).trans c2, (World.cell?_of_block (a := ⟨b, 3, none⟩) hb).trans c3, (World.cell?_of_block (a := ⟨b, 4, none⟩) hb).trans c4, (World.cell?_of_block (a := ⟨b, 5, none⟩) hb).trans c5, (World.cell?_of_block (a := ⟨b, 6, none⟩) hb).trans c6, (World.cell?_of_block (a := ⟨b, 7, none⟩) hb).trans c7, (World.cell?_of_block (a := ⟨b, 8, none⟩) hb).trans c8, (World.cell?_of_block (a := ⟨b, 9, none⟩) hb).trans c9, (World.cell?_of_block (a := ⟨b, 10, none⟩) hb).trans c10, (World.cell?_of_block (a := ⟨b, 11, none⟩) hb).trans c11, (World.cell?_of_block (a := ⟨b, 12, none⟩) hb).trans c12, (World.cell?_of_block (a := ⟨b, 13, none⟩) hb).trans c13, (World.cell?_of_block (a := ⟨b, 14, none⟩) hb).trans c14⟩
theorem WorkCell.below {w w' : World} {b : Nat} {n : Nd} {I A B : Mx} {io ao bo : Option Addr} {ic ac bc : Nat} (h : WorkCell w b n I A B io ao bo ic ac bc) (hb : Below w.heap.size w w') : WorkCell w' b n I A B io ao bo ic ac bc :=
  h.ofBlock hb.size (hb.block b h.1)
theorem WorkCell.new (w : World) (n : Nd) (I A B : Mx) (io ao bo : Option Addr) (ic ac bc : Nat) (t : TypeId) :
    WorkCell (w.alloc (.cells #[.int .i64 n.op, .int .i64 n.a, .int .i64 n.b, .int .i64 n.k, .int .i64 n.rows, .int .i64 n.cols, .int .i64 I.rows, .int .i64 I.cols, .slice io I.nums.length ic, .int .i64 A.rows, .int .i64 A.cols, .slice ao A.nums.length ac, .int .i64 B.rows, .int .i64 B.cols, .slice bo B.nums.length bc] t)) w.heap.size n I A B io ao bo ic ac bc :=
  ⟨by simp, by simp [go_sem], by simp [go_sem], by simp [go_sem], by simp [go_sem], by simp [go_sem], by simp [go_sem], by simp [go_sem], by simp [go_sem], by simp [go_sem], by simp [go_sem], by simp [go_sem], by simp [go_sem], by simp [go_sem], by simp [go_sem], by simp [go_sem]⟩
/-- the numbers of a node's matrix, the first t of them -/
def numsTo (val : Int → Int → Int) (c : Nat) (t : Nat) : List Int := (List.range t).map fun x => val (x / c : Nat) (x % c : Nat)
theorem numsTo_len (val : Int → Int → Int) (c t : Nat) : (numsTo val c t).length = t := by simp [numsTo]
theorem numsTo_step (val : Int → Int → Int) (c r k : Nat) (h : k < c) : numsTo val c (r * c + k + 1) = numsTo val c (r * c + k) ++ [val r k] := by
  have e1 : (r * c + k) / c = r := by rw [Nat.mul_comm, Nat.mul_add_div (by omega), Nat.div_eq_of_lt h]; rfl
  have e2 : (r * c + k) % c = k := by rw [Nat.mul_comm, Nat.mul_add_mod, Nat.mod_eq_of_lt h]
  simp only [numsTo, List.range_succ, List.map_append, List.map_cons, List.map_nil, e1, e2]
/-- the matrix in the making, in block mb: its numbers in a row of the call's own, from base on -/
def Made (w : World) (base mb : Nat) (r c : Int) (v : Value) (l : List Int) : Prop :=
  mb < base ∧ mb < w.heap.size ∧ base ≤ w.heap.size ∧ w.cell? ⟨mb, 0, none⟩ = some (.int .i64 r) ∧ w.cell? ⟨mb, 1, none⟩ = some (.int .i64 c) ∧ w.cell? ⟨mb, 2, none⟩ = some v ∧ w.ownsRow base 3 1 v l.length (l.map (Value.int .i64)) ∧ ∀ j, w.frozen? ⟨mb, j, none⟩ = false
theorem Made.below {w w' : World} {base mb : Nat} {r c : Int} {v : Value} {l : List Int} (h : Made w base mb r c v l) (hb : Below w.heap.size w w') : Made w' base mb r c v l := by
  obtain ⟨h1, h2, h3, h4, h5, h6, h7, h8⟩ := h
  exact ⟨h1, Nat.lt_of_lt_of_le h2 hb.size, Nat.le_trans h3 hb.size, (hb.cell (by exact h2)).trans h4, (hb.cell (by exact h2)).trans h5, (hb.cell (by exact h2)).trans h6, ownsRow_below h7 hb, fun j => (hb.frozen (by exact h2)).trans (h8 j)⟩
theorem keptBut_pushAt {w wc w9 : World} {bb off : Nat} {row : Option Nat} {o : Obj} {v' : Value} (h : KeptBut bb row w wc) (hgrow : (wc.alloc o).grownBy w9 row) : KeptBut bb row w (w9.setCell ⟨bb, off, none⟩ v') := by
  refine KeptBut.setCell ⟨h.1.trans (Below.trans (Bl.more (Bl.refl wc) o |>.mono (Nat.zero_le _)) ⟨hgrow.os, hgrow.tape, hgrow.output, hgrow.size, fun k hk => absurd hk (Nat.not_lt_zero _)⟩), fun k hk h1 h2 => ?_⟩ (.inr rfl) _
  have hz := h.1.size
  rw [hgrow.block k (by simp; omega) h2, Below.heap_alloc _ _ _ (by omega)]
  exact h.2 k hk h1 h2
/-- the place of a result that is a matrix, still empty -/
def ResCell (w : World) (b : Nat) : Prop := (b < w.heap.size ∧ w.cell? ⟨b, 0, none⟩ = some (.int .i64 0) ∧ w.cell? ⟨b, 1, none⟩ = some (.int .i64 0) ∧ w.cell? ⟨b, 2, none⟩ = some (.slice none 0 0)) ∧ ∀ j, w.frozen? ⟨b, j, none⟩ = false
theorem ResCell.ofBlock {w w' : World} {b : Nat} (h : ResCell w b) (hs : w.heap.size ≤ w'.heap.size) (hb : w'.heap[b]? = w.heap[b]?) : ResCell w' b :=
  ⟨⟨Nat.lt_of_lt_of_le h.1.1 hs, (World.cell?_of_block (a := ⟨b, 0, none⟩) hb).trans h.1.2.1, (World.cell?_of_block (a := ⟨b, 1, none⟩) hb).trans h.1.2.2.1, (World.cell?_of_block (a := ⟨b, 2, none⟩) hb).trans h.1.2.2.2⟩, fun j => (World.frozen?_of_block (a := ⟨b, j, none⟩) hb).trans (h.2 j)⟩
theorem ResCell.below {w w' : World} {b : Nat} (h : ResCell w b) (hb : Below w.heap.size w w') : ResCell w' b := h.ofBlock hb.size (hb.block b h.1.1)
theorem ResCell.new (w : World) (b : Nat) (t : TypeId) (h : b = w.heap.size) : ResCell (w.alloc (.cells #[.int .i64 0, .int .i64 0, .slice none 0 0] t)) b := by
  subst h
  exact ⟨⟨by simp, by simp [go_sem], by simp [go_sem], by simp [go_sem]⟩, fun j => by simp [go_sem]⟩
theorem ownsRow_base {w : World} {base base' e size n : Nat} {v : Value} {xs : List Value} (h : w.ownsRow base e size v n xs) (hb : base' ≤ base) : w.ownsRow base' e size v n xs := by
  refine ⟨h.1, ?_⟩
  rcases h.2 with hn | ⟨g, cap, cur, rfl, hg, rest⟩
  · exact .inl hn
  · exact .inr ⟨g, cap, cur, rfl, Nat.le_trans hb hg, rest⟩
theorem Made.new (w : World) (r c : Int) (t : TypeId) (mb : Nat) (h : mb = w.heap.size) : Made (w.alloc (.cells #[.int .i64 r, .int .i64 c, .slice none 0 0] t)) (mb + 1) mb r c (.slice none 0 0) [] := by
  subst h
  exact ⟨by omega, by simp, by simp, by simp [go_sem], by simp [go_sem], by simp [go_sem], World.ownsRow_nil _ _ _ _, fun j => by simp [go_sem]⟩
theorem made_push {wc w9 : World} {base mb g9 cap9 x : Nat} {r c : Int} {vo : Option Addr} {vc : Nat} {l : List Int} {y : Int} {o : Obj} (hM : Made wc base mb r c (.slice vo l.length vc) l)
    (hown : w9.ownsRow base 3 1 (.slice (some ⟨g9, 0, none⟩) x cap9) x (l.map (Value.int .i64) ++ [.int .i64 y])) (hx : x = l.length + 1) (hgrow : (wc.alloc o).grownBy w9 (Value.slice vo l.length vc).ownBlock) :
    Made (w9.setCell ⟨mb, 2, none⟩ (.slice (some ⟨g9, 0, none⟩) x cap9)) base mb r c (.slice (some ⟨g9, 0, none⟩) x cap9) (l ++ [y]) := by
  obtain ⟨h1, h2, h3, h4, h5, h6, h7, h8⟩ := hM
  have hz := hgrow.size
  have hne : some mb ≠ (Value.slice vo l.length vc).ownBlock := fun e => by have := h7.lt _ e.symm; omega
  have hcell : ∀ j, w9.cell? ⟨mb, j, none⟩ = wc.cell? ⟨mb, j, none⟩ := fun j => (World.cell?_of_block (a := ⟨mb, j, none⟩) (hgrow.block mb (by simp; omega) hne)).trans ((Bl.more (Bl.refl wc) o).cell (by exact h2))
  have hfr : ∀ j, w9.frozen? ⟨mb, j, none⟩ = false := fun j => ((World.frozen?_of_block (a := ⟨mb, j, none⟩) (hgrow.block mb (by simp; omega) hne)).trans ((Bl.more (Bl.refl wc) o).frozen (by exact h2))).trans (h8 j)
  have c0 := (hcell 0).trans h4
  have c1 := (hcell 1).trans h5
  have c2 := (hcell 2).trans h6
  subst hx
  have hz2 : (wc.alloc o).heap.size = wc.heap.size + 1 := by simp
  refine ⟨h1, by simp; omega, by simp; omega, by simp [go_sem, c0], by simp [go_sem, c1], by simp [go_sem, c2], ?_, fun j => by simp [go_sem, hfr j]⟩
  have e : (l ++ [y]).map (Value.int .i64) = l.map (Value.int .i64) ++ [.int .i64 y] := by simp
  have e2 : (l ++ [y]).length = l.length + 1 := by simp
  rw [e, e2]
  exact ownsRow_setCell_below hown (by exact h1) _
set_option maxHeartbeats 8000000 in
set_option maxRecDepth 100000 in
theorem gives_any (n : Nd) (I A B : Mx) (io ao bo : Option Addr) (ic ac bc b : Nat) (af : Nat) (val : Int → Int → Int) (w : World)
    (hen : ∀ args w, (callFunc af args).run Try.prog w = .ok (.enter af args) w) (h4 : sidesOk n) (hAt : ∀ (i k : Nat) (w' : World), (i : Int) < n.rows → (k : Int) < n.cols → Below w.heap.size w w' → Calls Try.prog af #[.agg #[.int .i64 n.op, .int .i64 n.a, .int .i64 n.b, .int .i64 n.k, .int .i64 n.rows, .int .i64 n.cols, .int .i64 I.rows, .int .i64 I.cols, .slice io I.nums.length ic, .int .i64 A.rows, .int .i64 A.cols, .slice ao A.nums.length ac, .int .i64 B.rows, .int .i64 B.cols, .slice bo B.nums.length bc], .int .i64 i, .int .i64 k] w' fun e w'' => e = .returned (.int .i64 (val i k)) ∧ Below w'.heap.size w' w'') :
    Calls Try.prog 43 #[.agg #[.string (bs (wordL n.op)), .slice (some ⟨b, 0, none⟩) (saysZ n.op).length (saysZ n.op).length, .func (.func (shapeF n.op)) #[] #[], .func (.func (costF n.op)) #[] #[], .func (.func af) #[] #[]], .agg #[.int .i64 n.op, .int .i64 n.a, .int .i64 n.b, .int .i64 n.k, .int .i64 n.rows, .int .i64 n.cols, .int .i64 I.rows, .int .i64 I.cols, .slice io I.nums.length ic, .int .i64 A.rows, .int .i64 A.cols, .slice ao A.nums.length ac, .int .i64 B.rows, .int .i64 B.cols, .slice bo B.nums.length bc]] w fun e w' => ∃ v, e = .returned (.agg #[.int .i64 n.rows, .int .i64 n.cols, v]) ∧ w'.ownsRow w.heap.size 3 1 v (n.rows.toNat * n.cols.toNat) ((numsTo val n.cols.toNat (n.rows.toNat * n.cols.toNat)).map (Value.int .i64)) ∧ Below w.heap.size w w' := by
  have HAT : Hid (∀ (i k : Nat) (w' : World), (i : Int) < n.rows → (k : Int) < n.cols → Below w.heap.size w w' → Calls Try.prog af #[.agg #[.int .i64 n.op, .int .i64 n.a, .int .i64 n.b, .int .i64 n.k, .int .i64 n.rows, .int .i64 n.cols, .int .i64 I.rows, .int .i64 I.cols, .slice io I.nums.length ic, .int .i64 A.rows, .int .i64 A.cols, .slice ao A.nums.length ac, .int .i64 B.rows, .int .i64 B.cols, .slice bo B.nums.length bc], .int .i64 i, .int .i64 k] w' fun e w'' => e = .returned (.int .i64 (val i k)) ∧ Below w'.heap.size w' w'') := hAt
  clear hAt
  obtain ⟨i0, hi, hz0, hz1, hz2⟩ := info_parts infoInt
  have HI : Hid (i0.zero = some (.int .i64 0) ∧ i0.size = 1 ∧ i0.bytes = 8 ∧ Try.prog.info? 3 = some i0) := ⟨hz0, hz1, hz2, hi⟩
  clear hi hz0 hz1 hz2
  obtain ⟨⟨r1, r2⟩, c1, c2⟩ := h4
  have HBD : Hid (∀ r c : Nat, r ≤ n.rows.toNat → c ≤ n.cols.toNat → r * n.cols.toNat + c ≤ 20) := fun r c hr hc => by
    have h := Nat.mul_le_mul (show r ≤ 4 by omega) (show n.cols.toNat ≤ 4 by omega)
    omega
  go_enter Try.func43, Try.ntmps43
  go_wp2
  go_loopw [17] (fun j wr => ∃ r : Nat, (r : Int) ≤ n.rows ∧ j = .int .i64 r ∧ Hid (∃ vo vc, Made wr (w.heap.size + 1 + 1 + 1 + 1) (w.heap.size + 1 + 1 + 1) n.rows n.cols (.slice vo (numsTo val n.cols.toNat (r * n.cols.toNat)).length vc) (numsTo val n.cols.toNat (r * n.cols.toNat))) ∧ Hid (WorkCell wr (w.heap.size + 1) n I A B io ao bo ic ac bc) ∧ wr.cell? ⟨w.heap.size, 4, none⟩ = some (.func (.func af) #[] #[]) ∧ Below w.heap.size w wr ∧ w.heap.size + 4 ≤ wr.heap.size ∧ Hid (ResCell wr (w.heap.size + 1 + 1))) (fun j _ => (n.rows - intOf j).toNat)
  case atStart =>
    refine ⟨0, by omega, rfl, ⟨none, 0, ?_⟩, ?_, by simp [go_sem], by repeat (first | exact Bl.refl _ | refine Bl.more ?_ _ | refine Below.drew ?_), by simp, (ResCell.new _ _ _ (by simp)).below (Bl.more (Bl.refl _) _)⟩
    · simp only [Nat.zero_mul]
      exact Made.new _ n.rows n.cols _ _ (by simp)
    · have h := (WorkCell.new (w.alloc (.cells #[.string (bs (wordL n.op)), .slice (some ⟨b, 0, none⟩) (saysZ n.op).length (saysZ n.op).length, .func (.func (shapeF n.op)) #[] #[], .func (.func (costF n.op)) #[] #[], .func (.func af) #[] #[]] 85)) n I A B io ao bo ic ac bc 91)
      have h2 := h.below (Bl.more (Bl.more (Bl.refl _) (.cells #[.int .i64 0, .int .i64 0, .slice none 0 0] 34)) (.cells #[.int .i64 n.rows, .int .i64 n.cols, .slice none 0 0] 34))
      show WorkCell _ (w.heap.size + 1) n I A B io ao bo ic ac bc
      simpa using h2
  case round =>
    obtain ⟨r, hr, rfl, hmade, hwork, hfn, hbr, hsz, hres⟩ := hrel
    by_cases hlt : (r : Int) < n.rows
    · obtain ⟨vo, vc, hM⟩ := hmade.out
      have HM : Hid (Made wr (w.heap.size + 1 + 1 + 1 + 1) (w.heap.size + 1 + 1 + 1) n.rows n.cols (.slice vo (numsTo val n.cols.toNat (r * n.cols.toNat)).length vc) (numsTo val n.cols.toNat (r * n.cols.toNat))) := hM
      obtain ⟨_, _, _, m0, m1, m2, _, _⟩ := hM
      clear hmade
      go_wp2
      clear m0 m1 m2
      go_loopw [22] (fun j wk => ∃ c : Nat, (c : Int) ≤ n.cols ∧ j = .int .i64 c ∧ Hid (∃ vo vc, Made wk (w.heap.size + 1 + 1 + 1 + 1) (w.heap.size + 1 + 1 + 1) n.rows n.cols (.slice vo (numsTo val n.cols.toNat (r * n.cols.toNat + c)).length vc) (numsTo val n.cols.toNat (r * n.cols.toNat + c))) ∧ Hid (WorkCell wk (w.heap.size + 1) n I A B io ao bo ic ac bc) ∧ wk.cell? ⟨w.heap.size, 4, none⟩ = some (.func (.func af) #[] #[]) ∧ Below w.heap.size w wk ∧ w.heap.size + 4 ≤ wk.heap.size ∧ Hid (ResCell wk (w.heap.size + 1 + 1))) (fun j _ => (n.cols - intOf j).toNat)
      case atStart => exact ⟨0, by omega, rfl, ⟨vo, vc, HM.out⟩, hwork, hfn, hbr, hsz, hres⟩
      case round =>
        clear hwork hfn hbr hsz HM hres
        obtain ⟨c, hc, rfl, hmade, hwork, hfn, hbr, hsz, hres⟩ := hrel
        by_cases hlc : (c : Int) < n.cols
        · obtain ⟨vo, vc, hM⟩ := hmade.out
          clear hmade
          have HST : Hid (numsTo val n.cols.toNat (r * n.cols.toNat + (c + 1)) = numsTo val n.cols.toNat (r * n.cols.toNat + c) ++ [val r c]) := numsTo_step val n.cols.toNat r c (by omega)
          have hbd : (numsTo val n.cols.toNat (r * n.cols.toNat + c)).length ≤ 20 := by rw [numsTo_len]; exact HBD.out r c (by omega) (by omega)
          generalize numsTo val n.cols.toNat (r * n.cols.toNat + c) = l at *
          have HM : Hid (Made wr (w.heap.size + 1 + 1 + 1 + 1) (w.heap.size + 1 + 1 + 1) n.rows n.cols (.slice vo l.length vc) l) := hM
          obtain ⟨_, u2, _, m0, m1, m2, _, mf⟩ := hM
          obtain ⟨u1, q0, q1, q2, q3, q4, q5, q6, q7, q8, q9, q10, q11, q12, q13, q14⟩ := hwork.out
          have HFN : Hid (wr.cell? ⟨w.heap.size, 4, none⟩ = some (.func (.func af) #[] #[])) := hfn
          go_wp2
          have hmb := u2
          go_region_law (first | (go_simp; go_at_fn af; refine (HAT.out r c _ hlt hlc ?_).mono ?_; (exact Bl.trans hbr (by repeat (first | exact Bl.refl _ | refine Below.drew ?_))); rintro e w3 ⟨rfl, hb3⟩; have HB3 : Hid (Below wr.heap.size wr w3) := Bl.trans (by repeat (first | exact Bl.refl _ | refine Below.drew ?_)) hb3; have HM3 : Hid (Made w3 (w.heap.size + 1 + 1 + 1 + 1) (w.heap.size + 1 + 1 + 1) n.rows n.cols (.slice vo l.length vc) l) := HM.out.below HB3.out; obtain ⟨_, v2, v3, m30, m31, m32, m37, m38⟩ := HM3.out; have hal3 := al1 v2; have HO3 : Hid (w3.ownsRow (w.heap.size + 1 + 1 + 1 + 1) 3 1 (.slice vo l.length vc) l.length (l.map (Value.int .i64))) := m37; have hne1 : some (w.heap.size + 1 + 1 + 1) ≠ (Value.slice vo l.length vc).ownBlock := fun e => by have := m37.lt _ e.symm; omega) | (refine step_append_lies _ (by rfl) _ _ _ (by rfl) (w.heap.size + 1 + 1 + 1 + 1) 3 i0 _ 1 8 underInts HI.out.2.2.2 HI.out.1 HI.out.2.1 HI.out.2.2.1 rfl (by omega) (.slice vo l.length vc) l.length (l.map (Value.int .i64)) (by rfl) (by exact HO3.out.alloc _) ⟨w3.heap.size, 0, none⟩ 1 1 [.int .i64 (val r c)] (by rfl) (by rfl) (World.news_of_block (cs := #[.int .i64 (val r c)]) (t := 3) (fr := (0, 0)) (heap_alloc_new w3 _)) (by simp [Value.oneCell']) (by omega) (by unfold maxLen; omega) (by omega) (by simp; omega) (w3.heap.size + 1) (by simp) ?_; intro g9 cap9 w9 hown9 hgrow hat hlt9; have t0 := (hgrow.cell_far ⟨w.heap.size + 1 + 1 + 1, 2, none⟩ (by simp; omega) hne1).trans ((hal3 _ _).trans m32); have tf : ∀ j, w9.frozen? ⟨w.heap.size + 1 + 1 + 1, j, none⟩ = false := fun j => (hgrow.frozen_far ⟨w.heap.size + 1 + 1 + 1, j, none⟩ (by simp; omega) hne1).trans (((Bl.more (Bl.refl w3) _).frozen (p := ⟨w.heap.size + 1 + 1 + 1, j, none⟩) (by exact v2)).trans (m38 j))) | fail)
          all_goals
            have P := made_push HM3.out hown9 rfl hgrow
            have Q := keptBut_pushAt (bb := w.heap.size + 1 + 1 + 1) (off := 2) (KeptBut.of HB3.out) hgrow (v' := .slice (some ⟨g9, 0, none⟩) (l.length + 1) cap9)
            have hz3 := HB3.out.size
            have hrow := HO3.out.lt
            clear hgrow hown9 hat t0 tf m30 m31 m32 m37 m38
            go_wp2
            go_roundw
            case rel =>
              refine ⟨c + 1, by omega, by go_num, ⟨some ⟨g9, 0, none⟩, cap9, ?_⟩, ?_, ?_, ?_, ?_, ?_⟩
              · rw [HST.out, List.length_append]; exact P
              · exact hwork.out.ofBlock Q.1.size (Q.2 (w.heap.size + 1) (by omega) (by omega) (fun e => by have := hrow _ e.symm; omega))
              · exact (World.cell?_of_block (a := ⟨w.heap.size, 4, none⟩) (Q.2 w.heap.size (by omega) (by omega) (fun e => by have := hrow _ e.symm; omega))).trans HFN.out
              · exact hbr.trans (Q.below (by omega) (fun k e => by have := hrow k e; omega) (by omega))
              · have := Q.1.size; omega
              · exact hres.out.ofBlock Q.1.size (Q.2 (w.heap.size + 1 + 1) (by omega) (by omega) (fun e => by have := hrow _ e.symm; omega))
            case measure => simp [intOf]; omega
        · have hce : c = n.cols.toNat := by omega
          have hE : numsTo val n.cols.toNat (r * n.cols.toNat + c) = numsTo val n.cols.toNat ((r + 1) * n.cols.toNat) := by rw [hce, Nat.add_mul, Nat.one_mul]
          rw [hE] at hmade
          clear hce hE
          go_wp2
          exact ⟨⟨r + 1, by omega, by go_num, hmade, hwork, hfn, hbr, hsz, hres⟩, by simp [intOf]; omega⟩
    · have hre : r = n.rows.toNat := by omega
      obtain ⟨vo, vc, hM⟩ := hmade.out
      rw [hre, numsTo_len] at hM
      clear hre hmade
      have HOWN : Hid (wr.ownsRow (w.heap.size + 1 + 1 + 1 + 1) 3 1 (.slice vo (n.rows.toNat * n.cols.toNat) vc) (n.rows.toNat * n.cols.toNat) ((numsTo val n.cols.toNat (n.rows.toNat * n.cols.toNat)).map (Value.int .i64))) := by
        have h := hM.2.2.2.2.2.2.1
        rw [numsTo_len] at h
        exact h
      obtain ⟨_, u2, _, m0, m1, m2, _, mf⟩ := hM
      obtain ⟨⟨z0, z1, z2, z3⟩, zf⟩ := hres.out
      go_wp2
      refine bodyPost_ret (v := .agg #[.int .i64 n.rows, .int .i64 n.cols, .slice vo (n.rows.toNat * n.cols.toNat) vc]) (by simp [results, Try.results43, go_sem, z1, z2, z3]) rfl ⟨_, rfl, ?_, ?_⟩
      · exact ownsRow_base (ownsRow_setCell_below (ownsRow_setCell_below (ownsRow_setCell_below HOWN.out (by dsimp only; omega) _) (by dsimp only; omega) _) (by dsimp only; omega) _) (by omega)
      · exact ((hbr.setCell (by dsimp only; omega) _).setCell (by dsimp only; omega) _).setCell (by dsimp only; omega) _
end Go.Proofs.Ytanlmfcllebopaa
