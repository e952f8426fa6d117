/- what is right in a graph (sides, parts), and its cost. -/
import Derived.Test.YtlcmllmphpllbaaGreatDoorWi
namespace Go.Proofs.YtlcmllmphpllbaaGreatDoor
open Go.RowKit

theorem ok_parts {ns : List Nd} {m : Nat} {n : Nd} (h : nodeOk ns m n = true) :
    (0 < partsZ n.op → 0 ≤ n.a ∧ n.a < m) ∧ (1 < partsZ n.op → 0 ≤ n.b ∧ n.b < m) ∧ (partsZ n.op = 0 → n.a = 0) ∧ (partsZ n.op < 2 → n.b = 0) := by
  simp only [nodeOk, Bool.and_eq_true, Bool.or_eq_true, decide_eq_true_eq, beq_iff_eq] at h
  obtain ⟨⟨⟨⟨⟨h1, h2⟩, h3⟩, h4⟩, h5⟩, h6⟩ := h
  refine ⟨fun hp => ?_, fun hp => ?_, fun hp => by omega, fun hp => by omega⟩
  · cases ha : aheadB n.a m
    · rw [placedZ, if_pos ⟨hp, ha⟩] at h1; simp at h1
    · simpa [aheadB] using ha
  · cases hb : aheadB n.b m
    · rw [placedZ] at h1
      split at h1
      · simp at h1
      · rw [if_pos ⟨hp, hb⟩] at h1; simp at h1
    · simpa [aheadB] using hb

def sidesOk (n : Nd) : Prop := (1 ≤ n.rows ∧ n.rows ≤ 4) ∧ (1 ≤ n.cols ∧ n.cols ≤ 4)
theorem nth_mem {ns : List Nd} {m : Nat} {x : Int} (hm : m ≤ ns.length) (h : 0 ≤ x ∧ x < m) (hall : ∀ j, j < m → (hj : j < ns.length) → sidesOk ns[j]) : sidesOk (nth ns x) := by
  obtain ⟨k, rfl⟩ := Int.eq_ofNat_of_zero_le h.1
  have hk : k < m := by omega
  rw [nth_at ns k (by omega)]
  exact hall k hk (by omega)
theorem placed_shape {ns : List Nd} {m : Nat} {n : Nd} (h : (placedZ ns m n).2.2 = true) (h1 : ¬ n.op = 1) :
    placedZ ns m n = shapeZ n (if 0 < partsZ n.op then nth ns n.a else zeroNd) (if 1 < partsZ n.op then nth ns n.b else zeroNd) := by
  rw [placedZ] at h
  rw [placedZ]
  by_cases c1 : 0 < partsZ n.op ∧ aheadB n.a m = false
  · rw [if_pos c1] at h; simp at h
  · rw [if_neg c1] at h ⊢
    by_cases c2 : 1 < partsZ n.op ∧ aheadB n.b m = false
    · rw [if_pos c2] at h; simp at h
    · rw [if_neg c2, if_neg h1]
theorem sides_add {ns : List Nd} {m : Nat} {n : Nd} (h1 : (placedZ ns m n).2.2 = true) (h2 : (placedZ ns m n).1 = n.rows) (h3 : (placedZ ns m n).2.1 = n.cols) (ho : n.op = 3 ∨ n.op = 4 ∨ n.op = 5) (a : sidesOk (nth ns n.a)) : sidesOk n := by
  rw [placed_shape h1 (by omega)] at h2 h3
  have e : ∀ x y : Nd, shapeZ n x y = (x.rows, x.cols, x.rows == y.rows && x.cols == y.cols) := fun x y => by
    unfold shapeZ; rw [if_neg (by omega), if_pos ho]
  have p : partsZ n.op = 2 := by unfold partsZ; rw [if_pos (by omega)]
  rw [e, p] at h2 h3
  simp at h2 h3
  unfold sidesOk at *
  rw [← h2, ← h3]; exact a
theorem sides {ns : List Nd} (hg : isGraphB ns = true) : ∀ m, (hm : m < ns.length) → sidesOk ns[m] := by
  intro m
  induction m using Nat.strongRecOn with
  | ind m ih =>
    intro hm
    have hok := ok_at hg m hm
    have hop := op_range hok
    obtain ⟨pa, pb, _, _⟩ := ok_parts hok
    have sa : 0 < partsZ ns[m].op → sidesOk (nth ns ns[m].a) := fun h => nth_mem (by omega) (pa h) (fun j hj hl => ih j hj hl)
    have sb : 1 < partsZ ns[m].op → sidesOk (nth ns ns[m].b) := fun h => nth_mem (by omega) (pb h) (fun j hj hl => ih j hj hl)
    simp only [nodeOk, Bool.and_eq_true, beq_iff_eq] at hok
    obtain ⟨⟨⟨⟨⟨h1, h2⟩, h3⟩, _⟩, _⟩, _⟩ := hok
    generalize ns[m] = n at *
    rcases hop with ho | ho | ho | ho | ho | ho | ho | ho
    · rw [placedZ, if_neg (by simp [ho, partsZ]), if_neg (by simp [ho, partsZ]), if_pos ho] at h1
      simp [sideB] at h1
      exact ⟨h1.1.1.1.1, h1.1.1.1.2⟩
    · rw [placed_shape h1 (by omega)] at h1
      simp [ho, shapeZ, sideB] at h1
      exact ⟨h1.1, h1.2⟩
    · exact sides_add h1 h2 h3 (.inl ho) (sa (by simp [ho, partsZ]))
    · exact sides_add h1 h2 h3 (.inr (.inl ho)) (sa (by simp [ho, partsZ]))
    · exact sides_add h1 h2 h3 (.inr (.inr ho)) (sa (by simp [ho, partsZ]))
    · rw [placed_shape h1 (by omega)] at h2 h3
      simp [ho, shapeZ, partsZ] at h2 h3
      have a := sa (by simp [ho, partsZ])
      unfold sidesOk at *
      rw [← h2, ← h3]; exact a
    · rw [placed_shape h1 (by omega)] at h2 h3
      simp [ho, shapeZ, partsZ] at h2 h3
      have a := sa (by simp [ho, partsZ])
      have b := sb (by simp [ho, partsZ])
      unfold sidesOk at *
      rw [← h2, ← h3]; exact ⟨a.1, b.2⟩
    · rw [placed_shape h1 (by omega)] at h2 h3
      simp [ho, shapeZ, partsZ] at h2 h3
      have a := sa (by simp [ho, partsZ])
      unfold sidesOk at *
      rw [← h2, ← h3]; exact ⟨a.2, a.1⟩

def costStep (ns : List Nd) (l : List Int) (n : Nd) : Int :=
  cappedZ (ownZ n.op n.rows n.cols (nth ns n.a).cols + (if 0 < partsZ n.op then l.getD n.a.toNat 0 else 0) + (if 1 < partsZ n.op then l.getD n.b.toNat 0 else 0))
def costs (ns : List Nd) : Nat → List Int
  | 0 => []
  | m + 1 => costs ns m ++ [costStep ns (costs ns m) (nth ns m)]
def costZ (ns : List Nd) : Int := (costs ns ns.length).getD (ns.length - 1) 0
theorem costs_len (ns : List Nd) : ∀ m, (costs ns m).length = m
  | 0 => rfl
  | m + 1 => by rw [costs, List.length_append, costs_len ns m]; rfl
theorem own_bd (op r c i : Int) (hr : 1 ≤ r ∧ r ≤ 4) (hc : 1 ≤ c ∧ c ≤ 4) (hi : 1 ≤ i ∧ i ≤ 4) : (1 ≤ r * c ∧ r * c ≤ 16) ∧ (2 ≤ 2 * r * c ∧ 2 * r * c ≤ 32) ∧ (2 ≤ 2 * r * c * i ∧ 2 * r * c * i ≤ 128) ∧ 0 ≤ ownZ op r c i ∧ ownZ op r c i ≤ 128 := by
  obtain rfl | rfl | rfl | rfl : r = 1 ∨ r = 2 ∨ r = 3 ∨ r = 4 := by omega
  all_goals obtain rfl | rfl | rfl | rfl : c = 1 ∨ c = 2 ∨ c = 3 ∨ c = 4 := by omega
  all_goals
    unfold ownZ
    refine ⟨by omega, by omega, by omega, ?_⟩
    repeat' split
    all_goals omega
theorem costs_bd (ns : List Nd) (hg : isGraphB ns = true) : ∀ m, m ≤ ns.length → ∀ j, j < m → 0 ≤ (costs ns m).getD j 0 ∧ (costs ns m).getD j 0 ≤ 1000000000000 := by
  intro m
  induction m with
  | zero => intro _ j hj; omega
  | succ m ih =>
    intro hm j hj
    have ih' := ih (by omega)
    rw [costs]
    by_cases e : j = m
    · subst e
      have hok := ok_at hg j (by omega)
      have hs := sides hg
      have e1 : (costs ns j ++ [costStep ns (costs ns j) (nth ns j)]).getD j 0 = costStep ns (costs ns j) (nth ns j) := by
        simp [List.getD, costs_len]
      rw [e1, nth_at ns j (by omega), costStep]
      have hi : 1 ≤ (nth ns ns[j].a).cols ∧ (nth ns ns[j].a).cols ≤ 4 := by
        by_cases hp : 0 < partsZ ns[j].op
        · exact (nth_mem (by omega) ((ok_parts hok).1 hp) (fun k hk hl => hs k hl)).2
        · have : ns[j].a = 0 := (ok_parts hok).2.2.1 (by unfold partsZ at *; repeat' split at hp
                                                         all_goals first | omega | (repeat' split
                                                                                    all_goals omega))
          rw [this]
          have := nth_at ns 0 (by omega)
          simp only [Int.natCast_zero] at this
          rw [this]
          exact (hs 0 (by omega)).2
      have ob := own_bd ns[j].op _ _ _ (hs j (by omega)).1 (hs j (by omega)).2 hi
      have g1 : 0 ≤ (if 0 < partsZ ns[j].op then (costs ns j).getD ns[j].a.toNat 0 else 0) ∧ (if 0 < partsZ ns[j].op then (costs ns j).getD ns[j].a.toNat 0 else 0) ≤ 1000000000000 := by
        split
        · rename_i hp; exact ih' _ (by have := (ok_parts hok).1 hp; omega)
        · omega
      have g2 : 0 ≤ (if 1 < partsZ ns[j].op then (costs ns j).getD ns[j].b.toNat 0 else 0) ∧ (if 1 < partsZ ns[j].op then (costs ns j).getD ns[j].b.toNat 0 else 0) ≤ 1000000000000 := by
        split
        · rename_i hp; exact ih' _ (by have := (ok_parts hok).2.1 hp; omega)
        · omega
      unfold cappedZ
      split <;> omega
    · have e1 : (costs ns m ++ [costStep ns (costs ns m) (nth ns m)]).getD j 0 = (costs ns m).getD j 0 := by
        simp only [List.getD]
        rw [List.getElem?_append_left (by rw [costs_len]; omega)]
      rw [e1]
      exact ih' j (by omega)
theorem inner_bd {ns : List Nd} (hg : isGraphB ns = true) (m : Nat) (hm : m < ns.length) : 0 ≤ ns[m].a ∧ ns[m].a < ns.length ∧ 1 ≤ (nth ns ns[m].a).cols ∧ (nth ns ns[m].a).cols ≤ 4 := by
  have hok := ok_at hg m hm
  have hs := sides hg
  by_cases hp : 0 < partsZ ns[m].op
  · have := (ok_parts hok).1 hp
    exact ⟨this.1, by omega, (nth_mem (by omega) this (fun k hk hl => hs k hl)).2⟩
  · have : ns[m].a = 0 := (ok_parts hok).2.2.1 (by unfold partsZ at *; repeat' split at hp
                                                   all_goals first | omega | (repeat' split
                                                                              all_goals omega))
    rw [this]
    have h0 := nth_at ns 0 (by omega)
    simp only [Int.natCast_zero] at h0
    rw [h0]
    exact ⟨by omega, by omega, (hs 0 (by omega)).2⟩

end Go.Proofs.YtlcmllmphpllbaaGreatDoor
