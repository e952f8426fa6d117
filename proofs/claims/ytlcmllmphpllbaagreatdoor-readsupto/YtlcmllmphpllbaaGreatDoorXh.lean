/- Builder.Add: words and laws; a part that is not ahead. -/
import Derived.Test.YtlcmllmphpllbaaGreatDoorXg
import Derived.Test.YtlcmllmphpllbaaGreatDoorXf
import Derived.Test.YtlcmllmphpllbaaGreatDoorWf
import Derived.Deep.AppendLies
import Derived.Deep.CutRange
import Derived.Deep.RegionLaw
import Derived.Deep.DeepFit
import Derived.Deep.RegionHeld3
namespace Go.Proofs.YtlcmllmphpllbaaGreatDoor
open Go.RowKit

/-- a builder in block bb: its nodes in rows of the call's own, from base on; its inputs -/
def Bld (w : World) (base bb : Nat) (v : Value) (ns : List Nd) (ins : Nat → Int × Int) : Prop :=
  bb < base ∧ bb < w.heap.size ∧ base ≤ w.heap.size ∧ w.cell? ⟨bb, 0, none⟩ = some v ∧ w.ownsRow base 42 6 v ns.length (cellsOf ns) ∧ (∀ j, w.frozen? ⟨bb, j, none⟩ = false) ∧
    ∀ k, k < 8 → w.cell? ⟨bb, 1 + k * 2, none⟩ = some (.int .i64 (ins k).1) ∧ w.cell? ⟨bb, 1 + k * 2 + 1, none⟩ = some (.int .i64 (ins k).2)

theorem known_lit (op : Int) (w : World) (ho : op = 1 ∨ op = 2 ∨ op = 3 ∨ op = 4 ∨ op = 5 ∨ op = 6 ∨ op = 7 ∨ op = 8) :
    Calls Tryz.prog 33 #[.int .i64 op] w fun e w' => ∃ b, e = .returned (.tuple #[.agg #[.string (bs (wordL op)), .slice (some ⟨b, 0, none⟩) (saysZ op).length (saysZ op).length, .func (.func (shapeF op)) #[] #[], .func (.func (costF op)) #[] #[], .func (.func (atF op)) #[] #[]], .bool true]) ∧ SaysAt w' b op ∧ Below w.heap.size w w' := known_yes op w ho
theorem look_two_lit (ns : List Nd) (ao : Option Addr) (cap : Nat) (op : Int) (b : Nat) (n : Nd) (w : World) (hs : SaysAt w b op) (hn : Nodes w ao ns) (h1 : (1 : Int) ∈ saysZ op) (h2 : (2 : Int) ∈ saysZ op)
    (ha : 0 ≤ n.a ∧ n.a < ns.length) (hb : 0 ≤ n.b ∧ n.b < ns.length) (sf : Nat) (hsf : shapeF op = sf) :
    Calls Tryz.prog 35 #[.agg #[.string (bs (wordL op)), .slice (some ⟨b, 0, none⟩) (saysZ op).length (saysZ op).length, .func (.func sf) #[] #[], .func (.func (costF op)) #[] #[], .func (.func (atF op)) #[] #[]], .slice ao ns.length cap, .agg #[.int .i64 n.op, .int .i64 n.a, .int .i64 n.b, .int .i64 n.k, .int .i64 n.rows, .int .i64 n.cols]] w fun e w' =>
      e = .returned (.agg #[.int .i64 n.op, .int .i64 n.a, .int .i64 n.b, .int .i64 n.k, .int .i64 n.rows, .int .i64 n.cols, .int .i64 (nth ns n.a).rows, .int .i64 (nth ns n.a).cols, .int .i64 (nth ns n.b).rows, .int .i64 (nth ns n.b).cols]) ∧ Below w.heap.size w w' := by
  subst hsf; exact look_two ns ao cap op b n w hs hn h1 h2 ha hb
theorem hasParts_lit (op : Int) (b bb : Nat) (n : Nd) (vo : Option Addr) (L vc : Nat) (w : World) (hs : SaysAt w b op) (hbb : bb < w.heap.size) (hc : w.cell? ⟨bb, 0, none⟩ = some (.slice vo L vc)) :
    Calls Tryz.prog 34 #[.pointer (some ⟨bb, 0, none⟩), .agg #[.string (bs (wordL op)), .slice (some ⟨b, 0, none⟩) (saysZ op).length (saysZ op).length, .func (.func (shapeF op)) #[] #[], .func (.func (costF op)) #[] #[], .func (.func (atF op)) #[] #[]],
      .agg #[.int .i64 n.op, .int .i64 n.a, .int .i64 n.b, .int .i64 n.k, .int .i64 n.rows, .int .i64 n.cols]] w fun e w' => e = .returned (.bool ((partsTo op n (saysZ op).length).all (fun x => aheadB x L))) ∧ Below w.heap.size w w' := hasParts_any op b bb n vo L vc w hs hbb hc

theorem NdCell.new (w : World) (n : Nd) : NdCell (w.alloc (.cells #[.int .i64 n.op, .int .i64 n.a, .int .i64 n.b, .int .i64 n.k, .int .i64 n.rows, .int .i64 n.cols] 42)) w.heap.size n :=
  ⟨by simp, by simp [go_sem], by simp [go_sem], by simp [go_sem], by simp [go_sem], by simp [go_sem], by simp [go_sem], fun j => by simp [go_sem]⟩
/-- what is known of an op, in a block of its own -/
def KindCell (w : World) (kb : Nat) (op : Int) (b : Nat) : Prop := kb < w.heap.size ∧ w.cell? ⟨kb, 0, none⟩ = some (.string (bs (wordL op))) ∧ w.cell? ⟨kb, 1, none⟩ = some (.slice (some ⟨b, 0, none⟩) (saysZ op).length (saysZ op).length)
    ∧ w.cell? ⟨kb, 2, none⟩ = some (.func (.func (shapeF op)) #[] #[]) ∧ w.cell? ⟨kb, 3, none⟩ = some (.func (.func (costF op)) #[] #[]) ∧ w.cell? ⟨kb, 4, none⟩ = some (.func (.func (atF op)) #[] #[])
theorem KindCell.below {w w' : World} {kb b : Nat} {op : Int} (h : KindCell w kb op b) (hb : Below w.heap.size w w') : KindCell w' kb op b := by
  obtain ⟨hs, c0, c1, c2, c3, c4⟩ := h
  refine ⟨Nat.lt_of_lt_of_le hs hb.size, ?_, ?_, ?_, ?_, ?_⟩ <;> rw [hb.cell (by exact hs)] <;> assumption
theorem KindCell.new (w : World) (op : Int) (b : Nat) : KindCell (w.alloc (.cells #[.string (bs (wordL op)), .slice (some ⟨b, 0, none⟩) (saysZ op).length (saysZ op).length, .func (.func (shapeF op)) #[] #[], .func (.func (costF op)) #[] #[], .func (.func (atF op)) #[] #[]] 73)) w.heap.size op b :=
  ⟨by simp, by simp [go_sem], by simp [go_sem], by simp [go_sem], by simp [go_sem], by simp [go_sem]⟩
theorem ownsRow_below {w w' : World} {base e size n : Nat} {v : Value} {xs : List Value} (h : w.ownsRow base e size v n xs) (hb : Below w.heap.size w w') : w'.ownsRow base e size v n xs :=
  h.kept (row := none) ⟨hb.os, hb.tape, hb.output, hb.size, fun k hk _ => hb.block k hk⟩ (by cases hv : v.ownBlock with | none => exact .inl rfl | some k => exact .inr (by simp))
theorem Bld.below {w w' : World} {base bb : Nat} {v : Value} {ns : List Nd} {ins : Nat → Int × Int} (h : Bld w base bb v ns ins) (hb : Below w.heap.size w w') : Bld w' base bb v ns ins := by
  obtain ⟨h1, h2, h3, h4, h5, h6, h7⟩ := h
  refine ⟨h1, Nat.lt_of_lt_of_le h2 hb.size, Nat.le_trans h3 hb.size, (hb.cell (by exact h2)).trans h4, ownsRow_below h5 hb, fun j => (hb.frozen (by exact h2)).trans (h6 j), fun k hk => ⟨(hb.cell (by exact h2)).trans (h7 k hk).1, (hb.cell (by exact h2)).trans (h7 k hk).2⟩⟩

theorem sh_kept {W w' : World} {x y : Value} {t : TypeId} (hb : Below (W.alloc (.cells #[x, y] t)).heap.size (W.alloc (.cells #[x, y] t)) w') : w'.cell? ⟨W.heap.size, 0, none⟩ = some x ∧ w'.cell? ⟨W.heap.size, 1, none⟩ = some y ∧ ∀ j, w'.frozen? ⟨W.heap.size, j, none⟩ = false :=
  ⟨(hb.cell (by simp)).trans (by simp [go_sem]), (hb.cell (by simp)).trans (by simp [go_sem]), fun j => (hb.frozen (by simp)).trans (by simp [go_sem])⟩
theorem lt_kept {B : Nat} {W w' : World} (h : Below B W w') : ∀ k, k < W.heap.size → k < w'.heap.size := fun _ hk => Nat.lt_of_lt_of_le hk h.size
theorem below_set2 {B : Nat} {w W : World} {s : Nat} {x y : Value} (h : Below B w W) (hs : B ≤ s) : Below B w ((W.setCell ⟨s, 0, none⟩ x).setCell ⟨s, 1, none⟩ y) := (h.setCell (by exact hs) x).setCell (by exact hs) y
theorem keep_alloc {W : World} {o o' : Obj} {b x : Nat} {v : Value} (hb : b < W.heap.size) (h : (W.alloc o).cell? ⟨b, x, none⟩ = some v) : (W.alloc o').cell? ⟨b, x, none⟩ = some v := by
  rw [al1 hb] at h ⊢; exact h
theorem set2_at {W : World} {s : Nat} {x y x0 y0 : Value} (h0 : W.cell? ⟨s, 0, none⟩ = some x0) (h1 : W.cell? ⟨s, 1, none⟩ = some y0) :
    ((W.setCell ⟨s, 0, none⟩ x).setCell ⟨s, 1, none⟩ y).cell? ⟨s, 0, none⟩ = some x ∧ ((W.setCell ⟨s, 0, none⟩ x).setCell ⟨s, 1, none⟩ y).cell? ⟨s, 1, none⟩ = some y := by
  constructor <;> simp [go_sem, h0, h1]
theorem NdCell.set45 {w : World} {b : Nat} {n : Nd} (h : NdCell w b n) (r c : Int) : NdCell ((w.setCell ⟨b, 4, none⟩ (.int .i64 r)).setCell ⟨b, 5, none⟩ (.int .i64 c)) b ⟨n.op, n.a, n.b, n.k, r, c⟩ := by
  obtain ⟨hs, c0, c1, c2, c3, c4, c5, hf⟩ := h
  refine ⟨by simpa using hs, ?_, ?_, ?_, ?_, ?_, ?_, fun j => ?_⟩ <;> simp [go_sem, c0, c1, c2, c3, c4, c5, hf]
theorem cell_set2 (W : World) {s b o : Nat} (x y : Value) (h : b ≠ s) : ((W.setCell ⟨s, 0, none⟩ x).setCell ⟨s, 1, none⟩ y).cell? ⟨b, o, none⟩ = W.cell? ⟨b, o, none⟩ := by simp [go_sem]
/-- a shape in a block of its own -/
def ShAt (w : World) (sb : Nat) (r c : Int) : Prop := sb < w.heap.size ∧ w.cell? ⟨sb, 0, none⟩ = some (.int .i64 r) ∧ w.cell? ⟨sb, 1, none⟩ = some (.int .i64 c)
theorem undrew {X w9 : World} {r : Option Nat} (h : X.drew.grownBy w9 r) : X.grownBy w9 r := ⟨h.os, h.tape, h.output, h.size, h.block⟩
theorem bld_push {wc w9 : World} {base bb g9 cap9 vc : Nat} {vo : Option Addr} {ns : List Nd} {ins : Nat → Int × Int} {o : Obj} {n' : Nd} (hB : Bld wc base bb (.slice vo ns.length vc) ns ins)
    (hown9 : w9.ownsRow base 42 6 (.slice (some ⟨g9, 0, none⟩) (ns.length + 1) cap9) (ns.length + 1) (cellsOf ns ++ [.int .i64 n'.op, .int .i64 n'.a, .int .i64 n'.b, .int .i64 n'.k, .int .i64 n'.rows, .int .i64 n'.cols]))
    (hgrow : (wc.alloc o).grownBy w9 (Value.slice vo ns.length vc).ownBlock) :
    Bld (w9.setCell ⟨bb, 0, none⟩ (.slice (some ⟨g9, 0, none⟩) (ns.length + 1) cap9)) base bb (.slice (some ⟨g9, 0, none⟩) (ns ++ [n']).length cap9) (ns ++ [n']) ins := by
  obtain ⟨h1, h2, h3, h4, h5, h6, h7⟩ := hB
  have hne : some bb ≠ (Value.slice vo ns.length vc).ownBlock := fun e => by have := h5.lt bb e.symm; omega
  have hsz : wc.heap.size < w9.heap.size := by have := hgrow.size; simp at this; omega
  have hcell : ∀ j, w9.cell? ⟨bb, j, none⟩ = wc.cell? ⟨bb, j, none⟩ := fun j => (hgrow.cell_far ⟨bb, j, none⟩ (by simp; omega) hne).trans (al1 h2 _ _)
  have hfr : ∀ j, w9.frozen? ⟨bb, j, none⟩ = false := fun j => (hgrow.frozen_far ⟨bb, j, none⟩ (by simp; omega) hne).trans (((Bl.more (Bl.refl wc) _).frozen (p := ⟨bb, j, none⟩) (by exact h2)).trans (h6 j))
  have e1 : cellsOf (ns ++ [n']) = cellsOf ns ++ [.int .i64 n'.op, .int .i64 n'.a, .int .i64 n'.b, .int .i64 n'.k, .int .i64 n'.rows, .int .i64 n'.cols] := by rw [cellsOf_app]; rfl
  have e2 : (ns ++ [n']).length = ns.length + 1 := by simp
  refine ⟨h1, by simp; omega, by simp; omega, ?_, ?_, fun j => ?_, fun k hk => ?_⟩
  · rw [e2]
    have := (hcell 0).trans h4
    simp [go_sem, this]
  · rw [e1, e2]
    exact ownsRow_setCell_below hown9 (by exact h1) _
  · simp [go_sem, hfr j]
  · have a1 := (hcell (1 + k * 2)).trans (h7 k hk).1
    have a2 := (hcell (1 + k * 2 + 1)).trans (h7 k hk).2
    have n1 : ¬ (1 + k * 2 = 0) := by omega
    have n2 : ¬ (1 + k * 2 + 1 = 0) := by omega
    constructor
    · simp [go_sem, a1]
    · simp [go_sem, a2]
/-- all blocks of w but bb and the row stand as they stood -/
def KeptBut (bb : Nat) (row : Option Nat) (w w' : World) : Prop := Below 0 w w' ∧ ∀ k, k < w.heap.size → k ≠ bb → some k ≠ row → w'.heap[k]? = w.heap[k]?
theorem KeptBut.of {bb : Nat} {row : Option Nat} {w w' : World} (h : Below w.heap.size w w') : KeptBut bb row w w' := ⟨h.mono (Nat.zero_le _), fun k hk _ _ => h.block k hk⟩
theorem KeptBut.andThen {bb : Nat} {row : Option Nat} {w w1 w2 : World} (h : KeptBut bb row w w1) (k : Below w1.heap.size w1 w2) : KeptBut bb row w w2 :=
  ⟨h.1.trans (k.mono (Nat.zero_le _)), fun i hi h1 h2 => (k.block i (Nat.lt_of_lt_of_le hi h.1.size)).trans (h.2 i hi h1 h2)⟩
theorem KeptBut.drew {bb : Nat} {row : Option Nat} {w w1 : World} (h : KeptBut bb row w w1) : KeptBut bb row w w1.drew := ⟨h.1.drew, h.2⟩
theorem KeptBut.setCell {bb : Nat} {row : Option Nat} {w w1 : World} (h : KeptBut bb row w w1) {p : Addr} (hp : w.heap.size ≤ p.block ∨ p.block = bb) (u : Value) : KeptBut bb row w (w1.setCell p u) :=
  ⟨h.1.setCell (Nat.zero_le _) u, fun i hi h1 h2 => (Below.heap_setCell _ _ _ _ (by omega)).trans (h.2 i hi h1 h2)⟩
theorem KeptBut.below {bb B : Nat} {row : Option Nat} {w w' : World} (h : KeptBut bb row w w') (h1 : B ≤ bb) (h2 : ∀ k, row = some k → B ≤ k) (h3 : B ≤ w.heap.size) : Below B w w' :=
  ⟨h.1.os, h.1.tape, h.1.output, h.1.size, fun k hk => h.2 k (by omega) (by omega) (fun e => by have := h2 k e.symm; omega)⟩
theorem keptBut_push {w wc w9 : World} {bb : Nat} {row : Option Nat} {o : Obj} {v' : Value} (h : KeptBut bb row w wc) (hgrow : (wc.alloc o).grownBy w9 row) : KeptBut bb row w (w9.setCell ⟨bb, 0, none⟩ v') := by
  refine KeptBut.setCell ⟨h.1.trans (Below.trans (Bl.more (Bl.refl wc) o |>.mono (Nat.zero_le _)) ⟨hgrow.os, hgrow.tape, hgrow.output, hgrow.size, fun k hk => absurd hk (Nat.not_lt_zero _)⟩), fun k hk h1 h2 => ?_⟩ (.inr rfl) _
  have hz := h.1.size
  rw [hgrow.block k (by simp; omega) h2, Below.heap_alloc _ _ _ (by omega)]
  exact h.2 k hk h1 h2
theorem keep_thereZ (bb : Nat) (k r c r0 c0 : Int) (w : World) (hk : 0 ≤ k ∧ k < 8) (hbb : bb < w.heap.size) (d0 : w.cell? ⟨bb, 1 + k.toNat * 2, none⟩ = some (.int .i64 r0)) (d1 : w.cell? ⟨bb, 1 + k.toNat * 2 + 1, none⟩ = some (.int .i64 c0)) (hz : (r0 == 0 && c0 == 0) = false) :
    Calls Tryz.prog 36 #[.pointer (some ⟨bb, 0, none⟩), .int .i64 k, .agg #[.int .i64 r, .int .i64 c]] w fun e w' => e = .returned (.bool (r0 == r && c0 == c)) ∧ Below w.heap.size w w' := by
  obtain ⟨m, rfl⟩ := Int.eq_ofNat_of_zero_le hk.1
  rw [Int.toNat_natCast] at d0 d1
  exact keep_there bb m r c r0 c0 w (by omega) hbb d0 d1 hz
theorem keep_newZ (bb : Nat) (k r c : Int) (w : World) (hk : 0 ≤ k ∧ k < 8) (hbb : bb < w.heap.size) (d0 : w.cell? ⟨bb, 1 + k.toNat * 2, none⟩ = some (.int .i64 0)) (d1 : w.cell? ⟨bb, 1 + k.toNat * 2 + 1, none⟩ = some (.int .i64 0)) (hf : ∀ j, w.frozen? ⟨bb, j, none⟩ = false) :
    Calls Tryz.prog 36 #[.pointer (some ⟨bb, 0, none⟩), .int .i64 k, .agg #[.int .i64 r, .int .i64 c]] w fun e w' => e = .returned (.bool true) ∧ Below w.heap.size ((w.setCell ⟨bb, 1 + k.toNat * 2, none⟩ (.int .i64 r)).setCell ⟨bb, 1 + k.toNat * 2 + 1, none⟩ (.int .i64 c)) w' := by
  obtain ⟨m, rfl⟩ := Int.eq_ofNat_of_zero_le hk.1
  rw [Int.toNat_natCast] at d0 d1 ⊢
  exact keep_new bb m r c w (by omega) hbb d0 d1 hf
theorem cell_off2 {W : World} {s b : Nat} (h : s ≠ b) (o p q : Nat) (x y : Value) : ((W.setCell ⟨b, p, none⟩ x).setCell ⟨b, q, none⟩ y).cell? ⟨s, o, none⟩ = W.cell? ⟨s, o, none⟩ := by simp [go_sem]
theorem below_size2 {W w' : World} {b p q : Nat} {x y : Value} (h : Below W.heap.size ((W.setCell ⟨b, p, none⟩ x).setCell ⟨b, q, none⟩ y) w') : Below ((W.setCell ⟨b, p, none⟩ x).setCell ⟨b, q, none⟩ y).heap.size ((W.setCell ⟨b, p, none⟩ x).setCell ⟨b, q, none⟩ y) w' := by
  have e : ((W.setCell ⟨b, p, none⟩ x).setCell ⟨b, q, none⟩ y).heap.size = W.heap.size := by simp
  rw [e]; exact h
theorem NdCell.offBlock {w : World} {b b' p q : Nat} {n : Nd} {x y : Value} (h : NdCell w b n) (hne : b ≠ b') : NdCell ((w.setCell ⟨b', p, none⟩ x).setCell ⟨b', q, none⟩ y) b n := by
  obtain ⟨hs, c0, c1, c2, c3, c4, c5, hf⟩ := h
  refine ⟨by simpa using hs, (cell_off2 hne _ _ _ _ _).trans c0, (cell_off2 hne _ _ _ _ _).trans c1, (cell_off2 hne _ _ _ _ _).trans c2, (cell_off2 hne _ _ _ _ _).trans c3, (cell_off2 hne _ _ _ _ _).trans c4, (cell_off2 hne _ _ _ _ _).trans c5, fun j => ?_⟩
  simp [go_sem, hf j]
theorem Bld.keepIn {w : World} {base bb : Nat} {v : Value} {ns : List Nd} {ins : Nat → Int × Int} (h : Bld w base bb v ns ins) (m : Nat) (r c : Int) (hm : m < 8) :
    Bld ((w.setCell ⟨bb, 1 + m * 2, none⟩ (.int .i64 r)).setCell ⟨bb, 1 + m * 2 + 1, none⟩ (.int .i64 c)) base bb v ns (fun k => if k = m then (r, c) else ins k) := by
  obtain ⟨h1, h2, h3, h4, h5, h6, h7⟩ := h
  have am := h7 m hm
  refine ⟨h1, by simpa using h2, by simpa using h3, ?_, ?_, fun j => by simp [go_sem, h6 j], fun k hk => ?_⟩
  · have a1 : ¬ (0 = 1 + m * 2) := by omega
    have a2 : ¬ (0 = 1 + m * 2 + 1) := by omega
    simp [go_sem, h4]
  · exact ownsRow_setCell_below (ownsRow_setCell_below h5 (by exact h1) _) (by exact h1) _
  · by_cases e : k = m
    · subst e
      have a1 : ¬ (1 + k * 2 = 1 + k * 2 + 1) := by omega
      simp [go_sem, am.1, am.2]
    · have a1 : ¬ (1 + k * 2 = 1 + m * 2) := by omega
      have a2 : ¬ (1 + k * 2 = 1 + m * 2 + 1) := by omega
      have a3 : ¬ (1 + k * 2 + 1 = 1 + m * 2) := by omega
      have a4 : ¬ (1 + k * 2 + 1 = 1 + m * 2 + 1) := by omega
      have ak := h7 k hk
      simp only [if_neg e]
      constructor
      · simp [go_sem, ak.1]
      · simp [go_sem, ak.2]
theorem ownsRow_setOther {w : World} {base e size n : Nat} {v : Value} {xs : List Value} (h : w.ownsRow base e size v n xs) {p : Addr} (hne : v.ownBlock ≠ some p.block) (u : Value) : (w.setCell p u).ownsRow base e size v n xs :=
  h.kept (row := some p.block) ⟨rfl, rfl, rfl, by simp, fun k _ hk => Below.heap_setCell w p u k (fun e => hk (by rw [e]))⟩ (.inr hne)
theorem Bld.set45 {w : World} {base bb s : Nat} {v : Value} {ns : List Nd} {ins : Nat → Int × Int} {x y : Value} (h : Bld w base bb v ns ins) (hg : v.ownBlock ≠ some s) (hne : s ≠ bb) : Bld ((w.setCell ⟨s, 4, none⟩ x).setCell ⟨s, 5, none⟩ y) base bb v ns ins := by
  obtain ⟨h1, h2, h3, h4, h5, h6, h7⟩ := h
  refine ⟨h1, by simpa using h2, by simpa using h3, (cell_off2 hne.symm _ _ _ _ _).trans h4, ownsRow_setOther (ownsRow_setOther h5 hg _) hg _, fun j => by simp [go_sem, h6 j], fun k hk => ⟨(cell_off2 hne.symm _ _ _ _ _).trans (h7 k hk).1, (cell_off2 hne.symm _ _ _ _ _).trans (h7 k hk).2⟩⟩
theorem look_one_lit (ns : List Nd) (ao : Option Addr) (cap : Nat) (op : Int) (b : Nat) (n : Nd) (w : World) (hs : SaysAt w b op) (hn : Nodes w ao ns) (h1 : (1 : Int) ∈ saysZ op) (h2 : ¬ (2 : Int) ∈ saysZ op)
    (ha : 0 ≤ n.a ∧ n.a < ns.length) (sf : Nat) (hsf : shapeF op = sf) :
    Calls Tryz.prog 35 #[.agg #[.string (bs (wordL op)), .slice (some ⟨b, 0, none⟩) (saysZ op).length (saysZ op).length, .func (.func sf) #[] #[], .func (.func (costF op)) #[] #[], .func (.func (atF op)) #[] #[]], .slice ao ns.length cap, .agg #[.int .i64 n.op, .int .i64 n.a, .int .i64 n.b, .int .i64 n.k, .int .i64 n.rows, .int .i64 n.cols]] w fun e w' =>
      e = .returned (.agg #[.int .i64 n.op, .int .i64 n.a, .int .i64 n.b, .int .i64 n.k, .int .i64 n.rows, .int .i64 n.cols, .int .i64 (nth ns n.a).rows, .int .i64 (nth ns n.a).cols, .int .i64 0, .int .i64 0]) ∧ Below w.heap.size w w' := by
  subst hsf; exact look_one ns ao cap op b n w hs hn h1 h2 ha
theorem look_none_lit (ns : List Nd) (ao : Option Addr) (cap : Nat) (op : Int) (b : Nat) (n : Nd) (w : World) (hs : SaysAt w b op) (hn : Nodes w ao ns) (h1 : ¬ (1 : Int) ∈ saysZ op) (h2 : ¬ (2 : Int) ∈ saysZ op) (sf : Nat) (hsf : shapeF op = sf) :
    Calls Tryz.prog 35 #[.agg #[.string (bs (wordL op)), .slice (some ⟨b, 0, none⟩) (saysZ op).length (saysZ op).length, .func (.func sf) #[] #[], .func (.func (costF op)) #[] #[], .func (.func (atF op)) #[] #[]], .slice ao ns.length cap, .agg #[.int .i64 n.op, .int .i64 n.a, .int .i64 n.b, .int .i64 n.k, .int .i64 n.rows, .int .i64 n.cols]] w fun e w' =>
      e = .returned (.agg #[.int .i64 n.op, .int .i64 n.a, .int .i64 n.b, .int .i64 n.k, .int .i64 n.rows, .int .i64 n.cols, .int .i64 0, .int .i64 0, .int .i64 0, .int .i64 0]) ∧ Below w.heap.size w w' := by
  subst hsf; exact look_none ns ao cap op b n w hs hn h1 h2
-- a part that is not ahead
set_option maxHeartbeats 2000000 in
set_option maxRecDepth 100000 in
theorem add_noparts (base bb : Nat) (n : Nd) (vo : Option Addr) (vc : Nat) (ns : List Nd) (ins : Nat → Int × Int) (w : World) (ho : n.op = 1 ∨ n.op = 2 ∨ n.op = 3 ∨ n.op = 4 ∨ n.op = 5 ∨ n.op = 6 ∨ n.op = 7 ∨ n.op = 8) (hB : Bld w base bb (.slice vo ns.length vc) ns ins)
    (hp : (partsTo n.op n (saysZ n.op).length).all (fun x => aheadB x ns.length) = false) :
    Calls Tryz.prog 25 #[.pointer (some ⟨bb, 0, none⟩), .agg #[.int .i64 n.op, .int .i64 n.a, .int .i64 n.b, .int .i64 n.k, .int .i64 n.rows, .int .i64 n.cols]] w fun e w' => e = .returned (.bool false) ∧ Below w.heap.size w w' := by
  have HO : Hid (n.op = 1 ∨ n.op = 2 ∨ n.op = 3 ∨ n.op = 4 ∨ n.op = 5 ∨ n.op = 6 ∨ n.op = 7 ∨ n.op = 8) := ho
  clear ho
  have HB : Hid (Bld w base bb (.slice vo ns.length vc) ns ins) := hB
  clear hB
  go_enter Tryz.func25, Tryz.ntmps25
  go_wp2_with fail
  refine (known_lit _ _ HO.out).mono ?_
  rintro e w1 ⟨b, rfl, hs1, hb1⟩
  have hN1 := NdCell.below (NdCell.new w n) hb1
  have HN1 : Hid (NdCell w1 w.heap.size n) := hN1
  obtain ⟨z1, m0, m1, m2, m3, m4, m5, _⟩ := hN1
  have HW1 : Hid (Below w.heap.size w w1) := Bl.trans (Bl.more (Bl.refl w) _) hb1
  have hB1 := Bld.below HB.out HW1.out
  have HB1 : Hid (Bld w1 base bb (.slice vo ns.length vc) ns ins) := hB1
  have zb1 := hB1.2.1
  have cb1 := hB1.2.2.2.1
  clear hB1 hb1
  have hal := al1 z1
  have halb := al1 zb1
  have HS1 : Hid (SaysAt w1 b n.op) := hs1
  clear hs1
  go_wp2_with fail
  refine (hasParts_lit n.op b bb n vo ns.length vc _ ?_ ?_ ?_).mono ?_
  · exact HS1.out.below (Bl.more (Bl.refl _) _)
  · simp; omega
  · rw [halb]; exact cb1
  rintro e w2 ⟨rfl, hb2⟩
  have HN2 : Hid (NdCell w2 w.heap.size n) := (HN1.out.below (Bl.more (Bl.refl _) _)).below hb2
  have HK2 : Hid (KindCell w2 w1.heap.size n.op b) := (KindCell.new w1 n.op b).below hb2
  have HS2 : Hid (SaysAt w2 b n.op) := (HS1.out.below (Bl.more (Bl.refl _) _)).below hb2
  have HB2 : Hid (Bld w2 base bb (.slice vo ns.length vc) ns ins) := (HB1.out.below (Bl.more (Bl.refl _) _)).below hb2
  have HW2 : Hid (Below w.heap.size w w2) := Bl.trans (Bl.trans HW1.out (Bl.more (Bl.refl _) _)) hb2
  clear hb2 hal halb m0 m1 m2 m3 m4 m5 cb1 HN1 HB1 HS1
  go_wp2
  go_ret
  exact ⟨rfl, HW2.out⟩

end Go.Proofs.YtlcmllmphpllbaaGreatDoor
