/- (classes.Forest).Root and Join, walked. -/
import Derived.Test.YtanlmfcllebopaaJa
import Derived.Test.YtanlmfcllebopaaKp
import Derived.OwnWalk
import Derived.Maps.RangeWalk
namespace Go.Proofs.Ytanlmfcllebopaa
open Go.RowKit

/-- a forest of n places in block fb -/
def FAt (w : World) (fb n : Nat) (p : Nat → Nat) : Prop := w.ownsRow 0 3 1 (.slice (some ⟨fb, 0, none⟩) n n) n ((List.range n).map fun i => .int .i64 (p i : Int))
theorem FAt.lt {w : World} {fb n : Nat} {p : Nat → Nat} (h : FAt w fb n p) : fb < w.heap.size := (World.ownsRow.lt h fb rfl).2
theorem FAt.cell {w : World} {fb n : Nat} {p : Nat → Nat} (h : FAt w fb n p) {i : Nat} (hi : i < n) : w.cell? ⟨fb, i, none⟩ = some (.int .i64 (p i : Int)) := by
  rw [World.ownsRow.cellAt h i (by omega)]; simp [hi]
theorem FAt.frozen {w : World} {fb n : Nat} {p : Nat → Nat} (h : FAt w fb n p) (i : Nat) : w.frozen? ⟨fb, i, none⟩ = false := World.ownsRow.frozenAt h i
theorem FAt.keeps {w w' : World} {fb n : Nat} {p : Nat → Nat} {S : Nat → Prop} (h : FAt w fb n p) (hk : Keeps S w w') (hs : ¬ S fb) : FAt w' fb n p := by
  have hl := h.lt
  refine ⟨h.1, ?_⟩
  rcases h.2 with ⟨h', _⟩ | ⟨g, cap, cur, hv, hb, hg, r⟩
  · cases h'
  · simp only [Value.slice.injEq, Option.some.injEq, Addr.mk.injEq, and_true, true_and] at hv
    obtain ⟨rfl, rfl⟩ := hv
    exact .inr ⟨_, _, cur, rfl, hb, (hk.block _ hl hs).trans hg, r⟩
theorem FAt.set {w : World} {fb n : Nat} {p : Nat → Nat} (h : FAt w fb n p) (i v : Nat) : FAt (w.setCell ⟨fb, i, none⟩ (.int .i64 (v : Int))) fb n (upd p i v) := by
  have e : (((List.range n).map fun i => Value.int .i64 (p i : Int)).set i (.int .i64 (v : Int))) = (List.range n).map fun j => Value.int .i64 (upd p i v j : Int) := by
    apply List.ext_getElem?
    intro j
    rw [List.getElem?_set]
    by_cases hj : i = j
    · subst hj
      by_cases hn : i < n
      · simp [hn, upd_same]
      · simp [hn]
    · rw [if_neg hj]
      by_cases hn : j < n
      · simp [hn, upd_other p v (fun e => hj e.symm)]
      · simp [hn]
  have := (World.ownsRow.stored h i (.int .i64 (v : Int))).1
  rw [e] at this
  exact this
/-- what a walk up leaves: the same tops -/
structure Up (w w' : World) (fb n : Nat) (p : Nat → Nat) : Prop where
  ex : ∃ p', FAt w' fb n p' ∧ Tops p' ∧ root p' = root p
  keeps : Keeps (fun k => k = fb) w w'

set_option maxHeartbeats 1000000 in
theorem root_any (fb n : Nat) (p : Nat → Nat) (x : Nat) (w : World) (hf : FAt w fb n p) (hp : Tops p) (hx : x < n) :
    Calls Try.prog 37 #[.slice (some ⟨fb, 0, none⟩) n n, .int .i64 x] w fun e w' => e = .returned (.int .i64 (root p x : Nat)) ∧ Up w w' fb n p := by
  have HF : Hid (FAt w fb n p) := hf
  clear hf
  go_enter Try.func37, Try.ntmps37
  go_wp2
  go_loopw [1] (fun v wr => ∃ (y : Nat) (q : Nat → Nat), v = .int .i64 (y : Int) ∧ y < n ∧ FAt wr fb n q ∧ Tops q ∧ root q = root p ∧ root p y = root p x ∧ Keeps (fun k => k = fb) w wr) (fun v _ => (intOf v).toNat)
  case atStart => exact ⟨x, p, rfl, hx, HF.out, hp, rfl, rfl, Keeps.refl _ _⟩
  case round =>
    obtain ⟨y, q, rfl, hy, hq, ht, hr, hrx, hk⟩ := hrel
    have c0 := hq.cell hy
    have HQ : Hid (FAt wr fb n q) := hq
    have HR : Hid (root q = root p ∧ root p y = root p x) := ⟨hr, hrx⟩
    have HK : Hid (Keeps (fun k => k = fb) w wr) := hk
    clear hq hr hrx hk
    by_cases e : q y = y
    · have HE : Hid (q y = y) := e
      have hb : ((q y : Int) != (y : Int)) = false := by simp [e]
      clear e
      go_wp2
      go_ret
      refine ⟨ret_int ?_, ⟨q, HQ.out, ht, HR.out.1⟩, HK.out⟩
      rw [← HR.out.2, ← HR.out.1, root_top HE.out]
    · have hlt : q y < y := by have := ht y; omega
      have hb : ((q y : Int) != (y : Int)) = true := by simp; omega
      have c1 := HQ.out.cell (i := q y) (by omega)
      have hfz := HQ.out.frozen
      have l1 : q y < n := by omega
      have l2 : q (q y) < n := by have := ht (q y); omega
      have HLT : Hid (q (q y) < y) := by have := ht (q y); show q (q y) < y; omega
      clear e
      go_wp2
      go_roundw
      case rel => exact ⟨q (q y), upd q y (q (q y)), rfl, l2, HQ.out.set _ _, ht.upd (Nat.le_of_lt HLT.out), (funext fun j => root_halve ht y j).trans HR.out.1, by rw [← HR.out.2, ← HR.out.1, root_step ht, root_step ht], HK.out.setCell (.inl rfl) _⟩
      case measure => have := HLT.out; simp [intOf]; omega
/-- what joining leaves -/
structure Joined' (w w' : World) (fb n : Nat) (r : Nat → Nat) : Prop where
  ex : ∃ p', FAt w' fb n p' ∧ Tops p' ∧ root p' = r
  keeps : Keeps (fun k => k = fb) w w'
set_option maxHeartbeats 1000000 in
theorem fjoin_any (fb n : Nat) (p : Nat → Nat) (x y : Nat) (w : World) (hf : FAt w fb n p) (hp : Tops p) (hx : x < n) (hy : y < n) :
    Calls Try.prog 32 #[.slice (some ⟨fb, 0, none⟩) n n, .int .i64 x, .int .i64 y] w fun e w' => e = .returned (.bool (root p x != root p y)) ∧ Joined' w w' fb n (joinR (root p) x y) := by
  have HF : Hid (FAt w fb n p) := hf
  clear hf
  go_enter Try.func32, Try.ntmps32
  go_wp2_with fail
  refine (root_any fb n p x _ HF.out hp hx).mono ?_
  rintro e w1 ⟨rfl, ⟨p1, hf1, ht1, hr1⟩, hk1⟩
  have HF1 : Hid (FAt w1 fb n p1) := hf1
  have HK1 : Hid (Keeps (fun k => k = fb) w w1) := hk1
  clear hf1 hk1
  go_wp2_with fail
  refine (root_any fb n p1 y _ HF1.out ht1 hy).mono ?_
  rintro e w2 ⟨rfl, ⟨p2, hf2, ht2, hr2⟩, hk2⟩
  have HF2 : Hid (FAt w2 fb n p2) := hf2
  have HK2 : Hid (Keeps (fun k => k = fb) w w2) := HK1.out.trans hk2
  clear hf2 hk2
  rw [hr1]
  have HR : Hid (root p2 = root p) := hr2.trans hr1
  clear hr1 hr2
  have lx : root p x ≤ x := root_le hp x
  have ly : root p y ≤ y := root_le hp y
  generalize hra : root p x = a at *
  generalize hrb : root p y = b at *
  have HA : Hid (root p x = a ∧ root p y = b) := ⟨hra, hrb⟩
  clear hra hrb
  have c0 := HF2.out.cell (i := a) (by omega)
  have c1 := HF2.out.cell (i := b) (by omega)
  have hfz := HF2.out.frozen
  have HJ : Hid (Joined' w (w2.setCell ⟨fb, max a b, none⟩ (.int .i64 ((min a b : Nat) : Int))) fb n (joinR (root p) x y)) := by
    have e := root_join ht2 x y
    rw [HR.out, HA.out.1, HA.out.2] at e
    exact ⟨⟨_, HF2.out.set _ _, ht2.upd (by omega), e⟩, HK2.out.setCell (.inl rfl) _⟩
  have HB : Hid ((root p x != root p y) = (((a : Nat) : Int) != (b : Int))) := by
    show (root p x != root p y) = _
    rw [HA.out.1, HA.out.2, Bool.eq_iff_iff]
    simp only [bne_iff_ne, ne_eq, Int.natCast_inj]
  rcases Nat.lt_trichotomy a b with h | h | h
  · rw [Nat.max_eq_right (Nat.le_of_lt h), Nat.min_eq_left (Nat.le_of_lt h)] at HJ
    go_wp2
    go_ret
    exact ⟨ret_bool HB.out.symm, HJ.out⟩
  · subst h
    rw [Nat.max_self, Nat.min_self] at HJ
    clear c1
    go_wp2
    go_ret
    exact ⟨ret_bool (by rw [HB.out]; simp), HJ.out⟩
  · rw [Nat.max_eq_left (Nat.le_of_lt h), Nat.min_eq_right (Nat.le_of_lt h)] at HJ
    go_wp2
    go_ret
    exact ⟨ret_bool HB.out.symm, HJ.out⟩
end Go.Proofs.Ytanlmfcllebopaa
