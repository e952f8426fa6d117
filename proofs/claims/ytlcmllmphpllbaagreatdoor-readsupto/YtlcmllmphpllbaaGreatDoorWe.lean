/- thriftref.IsGraph, walked. -/
import Derived.Test.YtlcmllmphpllbaaGreatDoorWd
import Derived.Deep.Light
import Derived.Deep.DeepMust
namespace Go.Proofs.YtlcmllmphpllbaaGreatDoor
open Go.RowKit

def nodeOk (ns : List Nd) (i : Nat) (n : Nd) : Bool :=
  (placedZ ns i n).2.2 && (placedZ ns i n).1 == n.rows && (placedZ ns i n).2.1 == n.cols && (decide (2 ≤ partsZ n.op) || n.b == 0) && (decide (1 ≤ partsZ n.op) || n.a == 0) && (countedB n.op || n.k == 0)
def isGraphB (ns : List Nd) : Bool := decide (1 ≤ ns.length ∧ ns.length ≤ 100) && (List.range ns.length).all (fun i => nodeOk ns i (ns.getD i zeroNd))

theorem not_graph {ns : List Nd} {m : Nat} (h : m < ns.length) (hb : nodeOk ns m ns[m] = false) : isGraphB ns = false := by
  unfold isGraphB
  rw [Bool.and_eq_false_iff]
  right
  rw [List.all_eq_false]
  exact ⟨m, by simpa using h, by simp [h, hb]⟩
theorem is_graph {ns : List Nd} (h1 : 1 ≤ ns.length) (h2 : ns.length ≤ 100) (h : ∀ j, (hj : j < ns.length) → nodeOk ns j ns[j] = true) : isGraphB ns = true := by
  unfold isGraphB
  rw [Bool.and_eq_true]
  refine ⟨by simp [h1, h2], ?_⟩
  rw [List.all_eq_true]
  intro j hj
  have hj' : j < ns.length := by simpa using hj
  simpa [hj'] using h j hj'

theorem nodeOk_of {ns : List Nd} {m : Nat} {n : Nd} {op na nb nk nr nc r' c' : Int} {ok' : Bool} (hf : n.op = op ∧ n.a = na ∧ n.b = nb ∧ n.k = nk ∧ n.rows = nr ∧ n.cols = nc) (hp : placedZ ns m n = (r', c', ok')) :
    nodeOk ns m n = (ok' && r' == nr && c' == nc && (decide (2 ≤ partsZ op) || nb == 0) && (decide (1 ≤ partsZ op) || na == 0) && (countedB op || nk == 0)) := by
  obtain ⟨rfl, rfl, rfl, rfl, rfl, rfl⟩ := hf
  rw [nodeOk, hp]
theorem step_all {ns : List Nd} {m : Nat} (h : ∀ j, (hj : j < m) → (hl : j < ns.length) → nodeOk ns j ns[j] = true) (hm : m < ns.length) (hk : nodeOk ns m ns[m] = true) :
    ∀ j, (hj : j < m + 1) → (hl : j < ns.length) → nodeOk ns j ns[j] = true := by
  intro j hj hl
  by_cases e : j = m
  · subst e; exact hk
  · exact h j (by omega) hl

end Go.Proofs.YtlcmllmphpllbaaGreatDoor
