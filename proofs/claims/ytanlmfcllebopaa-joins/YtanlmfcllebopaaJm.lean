/- thriftref.merged and met, walked. -/
import Derived.Test.YtanlmfcllebopaaJk
namespace Go.Proofs.Ytanlmfcllebopaa
open Go.RowKit Go.Maps

/-- a row of n numbers in block g, with room for cap -/
def LAt (w : World) (g n cap : Nat) (p : Nat → Nat) : Prop := w.ownsRow 0 3 1 (.slice (some ⟨g, 0, none⟩) n cap) n ((List.range n).map fun i => .int .i64 (p i : Int))
theorem LAt.lt {w : World} {g n cap : Nat} {p : Nat → Nat} (h : LAt w g n cap p) : g < w.heap.size := (World.ownsRow.lt h g rfl).2
theorem LAt.cell {w : World} {g n cap : Nat} {p : Nat → Nat} (h : LAt w g n cap p) {i : Nat} (hi : i < n) : w.cell? ⟨g, i, none⟩ = some (.int .i64 (p i : Int)) := by
  rw [World.ownsRow.cellAt h i (by omega)]; simp [hi]
theorem LAt.frozen {w : World} {g n cap : Nat} {p : Nat → Nat} (h : LAt w g n cap p) (i : Nat) : w.frozen? ⟨g, i, none⟩ = false := World.ownsRow.frozenAt h i
theorem LAt.keeps {w w' : World} {g n cap : Nat} {p : Nat → Nat} {S : Nat → Prop} (h : LAt w g n cap p) (hk : Keeps S w w') (hs : ¬ S g) : LAt w' g n cap p := by
  have hl := h.lt
  refine ⟨h.1, ?_⟩
  rcases h.2 with ⟨h', _⟩ | ⟨g', cap', cur, hv, hb, hg, r⟩
  · cases h'
  · simp only [Value.slice.injEq, Option.some.injEq, Addr.mk.injEq, and_true, true_and] at hv
    obtain ⟨rfl, rfl⟩ := hv
    exact .inr ⟨_, _, cur, rfl, hb, (hk.block _ hl hs).trans hg, r⟩
theorem upd_cells (n : Nat) (p : Nat → Nat) (i v : Nat) : (((List.range n).map fun i => Value.int .i64 (p i : Int)).set i (.int .i64 (v : Int))) = (List.range n).map fun j => Value.int .i64 (upd p i v j : Int) := by
  apply List.ext_getElem?
  intro j
  rw [List.getElem?_set]
  by_cases hj : i = j
  · subst hj
    by_cases hn : i < n
    · simp [hn, upd_same]
    · simp [hn]
  · rw [if_neg hj]
    by_cases hn : j < n
    · simp [hn, upd_other p v (fun e => hj e.symm)]
    · simp [hn]
theorem LAt.set {w : World} {g n cap : Nat} {p : Nat → Nat} (h : LAt w g n cap p) (i v : Nat) : LAt (w.setCell ⟨g, i, none⟩ (.int .i64 (v : Int))) g n cap (upd p i v) := by
  have := (World.ownsRow.stored h i (.int .i64 (v : Int))).1
  rw [upd_cells] at this
  exact this
theorem LAt.congr {w : World} {g n cap : Nat} {p q : Nat → Nat} (h : LAt w g n cap p) (e : ∀ i, i < n → p i = q i) : LAt w g n cap q := by
  have : (List.range n).map (fun i => Value.int .i64 (p i : Int)) = (List.range n).map (fun i => Value.int .i64 (q i : Int)) := by
    apply List.map_congr_left
    intro i hi
    rw [e i (List.mem_range.1 hi)]
  unfold LAt at h ⊢
  rw [← this]
  exact h
/-- the list is there, if anything is in it -/
def Lst (w : World) (ao : Option Addr) (n cap : Nat) (p : Nat → Nat) : Prop := 0 < n → ∃ g, ao = some ⟨g, 0, none⟩ ∧ LAt w g n cap p
set_option maxHeartbeats 2000000 in
theorem merged_any (g n cap : Nat) (r : Nat → Nat) (x y : Nat) (w : World) (hl : LAt w g n cap r) (hx : x < n) (hy : y < n) (hn : n ≤ 1000) :
    Calls Try.prog 27 #[.slice (some ⟨g, 0, none⟩) n cap, .int .i64 x, .int .i64 y] w fun e w' => e = .returned (.bool (r x != r y)) ∧ LAt w' g n cap (joinR r x y) ∧ Keeps (fun k => k = g) w w' := by
  have HL : Hid (LAt w g n cap r) := hl
  have c0 := hl.cell hx
  have c1 := hl.cell hy
  clear hl
  by_cases he : r x = r y
  · have HE : Hid ((r x != r y) = false ∧ joinR r x y = r) := ⟨by simp [he], joinR_same he⟩
    have hb : ((r x : Int) == (r y : Int)) = true := by simp [he]
    clear he
    go_enter Try.func27, Try.ntmps27
    go_wp2
    go_ret
    exact ⟨ret_bool HE.out.1.symm, by rw [HE.out.2]; exact HL.out, Keeps.refl _ _⟩
  · have HE : Hid ((r x != r y) = true) := by show (r x != r y) = true; simp [he]
    have hb : ((r x : Int) == (r y : Int)) = false := by simp; omega
    have fin : ∀ lo hi : Nat, lo = min (r x) (r y) → hi = max (r x) (r y) → Hid (∀ j, joinR r x y j = if r j = hi then lo else r j) := by
      intro lo hi e1 e2
      show ∀ j, joinR r x y j = if r j = hi then lo else r j
      intro j
      rw [joinR, e1, e2]
    rcases Nat.lt_or_gt_of_ne he with h | h
    · have HJ := fin (r x) (r y) (by omega) (by omega)
      have hb2 : decide ((r y : Int) < (r x : Int)) = false := decide_eq_false (by omega)
      clear fin he
      go_enter Try.func27, Try.ntmps27
      go_wp2
      go_loopw [10] (fun v wr => ∃ k : Nat, v = .int .i64 (k : Int) ∧ k ≤ n ∧ LAt wr g n cap (fun j => if j < k then joinR r x y j else r j) ∧ Keeps (fun k => k = g) w wr) (fun v _ => n - (intOf v).toNat)
      case atStart => exact ⟨0, rfl, Nat.zero_le _, HL.out.congr fun i _ => (by rw [if_neg (Nat.not_lt_zero _)]), Keeps.refl _ _⟩
      case round =>
        obtain ⟨k, rfl, hk, hL, hK⟩ := hrel
        have HLk : Hid (LAt wr g n cap (fun j => if j < k then joinR r x y j else r j)) := hL
        clear hL c0 c1
        by_cases hlt : k < n
        · have c2 := HLk.out.cell hlt
          rw [if_neg (Nat.lt_irrefl k)] at c2
          have hfz := HLk.out.frozen
          by_cases e : r k = r y
          · have b3 : ((r k : Int) == (r y : Int)) = true := by simp [e]
            have HK : Hid (r k = r y) := e
            clear e
            go_wp2
            refine ⟨⟨k + 1, by go_num, by omega, (HLk.out.set k (r x)).congr fun j _ => ?_, hK.setCell (.inl rfl) _⟩, by simp [intOf]; omega⟩
            by_cases e2 : j = k
            · subst e2; rw [upd_same, if_pos (by omega), HJ.out, if_pos HK.out]
            · rw [upd_other _ _ e2]
              by_cases h2 : j < k
              · rw [if_pos h2, if_pos (by omega)]
              · rw [if_neg h2, if_neg (by omega)]
          · have b3 : ((r k : Int) == (r y : Int)) = false := by simp; omega
            have HK : Hid (¬ r k = r y) := e
            clear e
            go_wp2
            refine ⟨⟨k + 1, by go_num, by omega, HLk.out.congr fun j _ => ?_, hK⟩, by simp [intOf]; omega⟩
            by_cases e2 : j = k
            · subst e2; rw [if_neg (Nat.lt_irrefl j), if_pos (by omega), HJ.out, if_neg HK.out]
            · by_cases h2 : j < k
              · rw [if_pos h2, if_pos (by omega)]
              · rw [if_neg h2, if_neg (by omega)]
        · have hke : k = n := by omega
          subst hke
          go_wp2
          go_ret
          exact ⟨ret_bool HE.out.symm, HLk.out.congr fun j hj => by rw [if_pos hj], hK⟩
    · have HJ := fin (r y) (r x) (by omega) (by omega)
      have hb2 : decide ((r y : Int) < (r x : Int)) = true := decide_eq_true (by omega)
      clear fin he
      go_enter Try.func27, Try.ntmps27
      go_wp2
      go_loopw [10] (fun v wr => ∃ k : Nat, v = .int .i64 (k : Int) ∧ k ≤ n ∧ LAt wr g n cap (fun j => if j < k then joinR r x y j else r j) ∧ Keeps (fun k => k = g) w wr) (fun v _ => n - (intOf v).toNat)
      case atStart => exact ⟨0, rfl, Nat.zero_le _, HL.out.congr fun i _ => (by rw [if_neg (Nat.not_lt_zero _)]), Keeps.refl _ _⟩
      case round =>
        obtain ⟨k, rfl, hk, hL, hK⟩ := hrel
        have HLk : Hid (LAt wr g n cap (fun j => if j < k then joinR r x y j else r j)) := hL
        clear hL c0 c1
        by_cases hlt : k < n
        · have c2 := HLk.out.cell hlt
          rw [if_neg (Nat.lt_irrefl k)] at c2
          have hfz := HLk.out.frozen
          by_cases e : r k = r x
          · have b3 : ((r k : Int) == (r x : Int)) = true := by simp [e]
            have HK : Hid (r k = r x) := e
            clear e
            go_wp2
            refine ⟨⟨k + 1, by go_num, by omega, (HLk.out.set k (r y)).congr fun j _ => ?_, hK.setCell (.inl rfl) _⟩, by simp [intOf]; omega⟩
            by_cases e2 : j = k
            · subst e2; rw [upd_same, if_pos (by omega), HJ.out, if_pos HK.out]
            · rw [upd_other _ _ e2]
              by_cases h2 : j < k
              · rw [if_pos h2, if_pos (by omega)]
              · rw [if_neg h2, if_neg (by omega)]
          · have b3 : ((r k : Int) == (r x : Int)) = false := by simp; omega
            have HK : Hid (¬ r k = r x) := e
            clear e
            go_wp2
            refine ⟨⟨k + 1, by go_num, by omega, HLk.out.congr fun j _ => ?_, hK⟩, by simp [intOf]; omega⟩
            by_cases e2 : j = k
            · subst e2; rw [if_neg (Nat.lt_irrefl j), if_pos (by omega), HJ.out, if_neg HK.out]
            · by_cases h2 : j < k
              · rw [if_pos h2, if_pos (by omega)]
              · rw [if_neg h2, if_neg (by omega)]
        · have hke : k = n := by omega
          subst hke
          go_wp2
          go_ret
          exact ⟨ret_bool HE.out.symm, HLk.out.congr fun j hj => by rw [if_pos hj], hK⟩
def metB (r : Nat → Nat) (x y : Int) : Bool := if x < 0 ∨ y < 0 then x == y else r x.toNat == r y.toNat
set_option maxHeartbeats 1000000 in
theorem met_any (ao : Option Addr) (n cap : Nat) (r : Nat → Nat) (x y : Int) (w : World) (hl : Lst w ao n cap r) (hx : PartOk n x) (hy : PartOk n y) :
    Calls Try.prog 28 #[.slice ao n cap, .int .i64 x, .int .i64 y] w fun e w' => e = .returned (.bool (metB r x y)) ∧ ∃ k, w' = w.drewN k := by
  by_cases h1 : x < 0
  · have HM : Hid (metB r x y = (x == y)) := by show metB r x y = _; rw [metB, if_pos (.inl h1)]
    have b1 : decide (x < 0) = true := decide_eq_true h1
    go_enter Try.func28, Try.ntmps28
    go_wp2
    go_ret
    exact ⟨ret_bool HM.out.symm, 0, rfl⟩
  by_cases h2 : y < 0
  · have HM : Hid (metB r x y = (x == y)) := by show metB r x y = _; rw [metB, if_pos (.inr h2)]
    have b1 : decide (x < 0) = false := decide_eq_false h1
    have b2 : decide (y < 0) = true := decide_eq_true h2
    go_enter Try.func28, Try.ntmps28
    go_wp2
    go_ret
    exact ⟨ret_bool HM.out.symm, 0, rfl⟩
  have hx' : 0 ≤ x ∧ x < n := by rcases hx with h | h; omega; exact h
  have hy' : 0 ≤ y ∧ y < n := by rcases hy with h | h; omega; exact h
  obtain ⟨a, rfl⟩ := Int.eq_ofNat_of_zero_le hx'.1
  obtain ⟨b, rfl⟩ := Int.eq_ofNat_of_zero_le hy'.1
  have ha : a < n := by omega
  have hb : b < n := by omega
  obtain ⟨g, rfl, hL⟩ := hl (by omega)
  have c0 := hL.cell ha
  have c1 := hL.cell hb
  have HM : Hid (metB r (a : Int) (b : Int) = ((r a : Int) == (r b : Int))) := by
    show metB r (a : Int) (b : Int) = _
    rw [metB, if_neg (by omega), Bool.eq_iff_iff]
    simp
    exact Int.natCast_inj.symm
  clear hx hy hx' hy' hL h1 h2
  have b1 : decide ((a : Int) < 0) = false := decide_eq_false (by omega)
  have b2 : decide ((b : Int) < 0) = false := decide_eq_false (by omega)
  go_enter Try.func28, Try.ntmps28
  go_wp2
  go_quiet ((fail))
  go_wp2
  go_ret
  exact ⟨ret_bool HM.out.symm, _, rfl⟩
end Go.Proofs.Ytanlmfcllebopaa
