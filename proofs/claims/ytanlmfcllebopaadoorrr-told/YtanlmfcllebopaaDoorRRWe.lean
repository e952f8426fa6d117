/- thriftref.IsGraph, walked. -/
import Derived.Test.YtanlmfcllebopaaDoorRRWd
import Derived.Deep.Light
import Derived.Deep.DeepMust
namespace Go.Proofs.YtanlmfcllebopaaDoorRR
open Go.RowKit

def nodeOk (ns : List Nd) (i : Nat) (n : Nd) : Bool :=
  (placedZ ns i n).2.2 && (placedZ ns i n).1 == n.rows && (placedZ ns i n).2.1 == n.cols && (decide (2 ≤ partsZ n.op) || n.b == 0) && (decide (1 ≤ partsZ n.op) || n.a == 0) && (countedB n.op || n.k == 0)
def isGraphB (ns : List Nd) : Bool := decide (1 ≤ ns.length ∧ ns.length ≤ 100) && (List.range ns.length).all (fun i => nodeOk ns i (ns.getD i zeroNd))

theorem not_graph {ns : List Nd} {m : Nat} (h : m < ns.length) (hb : nodeOk ns m ns[m] = false) : isGraphB ns = false := by
  unfold isGraphB
  rw [Bool.and_eq_false_iff]
  right
  rw [List.all_eq_false]
  exact ⟨m, by simpa using h, by simp [h, hb]⟩
theorem is_graph {ns : List Nd} (h1 : 1 ≤ ns.length) (h2 : ns.length ≤ 100) (h : ∀ j, (hj : j < ns.length) → nodeOk ns j ns[j] = true) : isGraphB ns = true := by
  unfold isGraphB
  rw [Bool.and_eq_true]
  refine ⟨by simp [h1, h2], ?_⟩
  rw [List.all_eq_true]
  intro j hj
  have hj' : j < ns.length := by simpa using hj
  simpa [hj'] using h j hj'

theorem nodeOk_of {ns : List Nd} {m : Nat} {n : Nd} {op na nb nk nr nc r' c' : Int} {ok' : Bool} (hf : n.op = op ∧ n.a = na ∧ n.b = nb ∧ n.k = nk ∧ n.rows = nr ∧ n.cols = nc) (hp : placedZ ns m n = (r', c', ok')) :
    nodeOk ns m n = (ok' && r' == nr && c' == nc && (decide (2 ≤ partsZ op) || nb == 0) && (decide (1 ≤ partsZ op) || na == 0) && (countedB op || nk == 0)) := by
  obtain ⟨rfl, rfl, rfl, rfl, rfl, rfl⟩ := hf
  rw [nodeOk, hp]
theorem step_all {ns : List Nd} {m : Nat} (h : ∀ j, (hj : j < m) → (hl : j < ns.length) → nodeOk ns j ns[j] = true) (hm : m < ns.length) (hk : nodeOk ns m ns[m] = true) :
    ∀ j, (hj : j < m + 1) → (hl : j < ns.length) → nodeOk ns j ns[j] = true := by
  intro j hj hl
  by_cases e : j = m
  · subst e; exact hk
  · exact h j (by omega) hl

set_option maxHeartbeats 2000000 in
theorem isGraph_any (ns : List Nd) (ao : Option Addr) (cap : Nat) (w : World) (hn : Nodes w ao ns) (hs : ns.length * 48 ≤ 140737488351232) :
    Calls Tryd.prog 14 #[.slice ao ns.length cap] w fun e w' => e = .returned (.bool (isGraphB ns)) ∧ Below w.heap.size w w' := by
  by_cases h1 : ns.length < 1
  · have hg : isGraphB ns = false := by simp [isGraphB]; omega
    go_enter Tryd.func14, Tryd.ntmps14
    go_wp2
    go_ret
    exact ⟨rfl, Bl.refl _⟩
  by_cases h2 : 100 < ns.length
  · have hg : isGraphB ns = false := by simp [isGraphB]; omega
    have HG : Hid (isGraphB ns = false) := hg
    clear hg
    go_enter Tryd.func14, Tryd.ntmps14
    go_wp2
    go_ret
    exact ⟨by rw [HG.out]; rfl, Bl.refl _⟩
  have g1 : 1 ≤ ns.length := by omega
  have g2 : ns.length ≤ 100 := by omega
  go_enter Tryd.func14, Tryd.ntmps14
  go_wp2
  go_loopw [3] (fun j wr => ∃ m : Nat, m ≤ ns.length ∧ j = .int .i64 m ∧ Hid (∀ j, (hj : j < m) → (hl : j < ns.length) → nodeOk ns j ns[j] = true) ∧ Below w.heap.size w wr) (fun j _ => ns.length - (intOf j).toNat)
  case atStart => exact ⟨0, Nat.zero_le _, rfl, fun j hj => absurd hj (Nat.not_lt_zero _), Bl.refl _⟩
  case round =>
    obtain ⟨m, hm, rfl, hall, hbr⟩ := hrel
    by_cases hlt : m < ns.length
    · have hnr := hn.below hbr
      obtain ⟨bl, off, rfl, hbs, c0, c1, c2, c3, c4, c5⟩ := hnr m hlt
      have HN : Hid (Nodes wr (some ⟨bl, off, none⟩) ns) := hnr
      clear hnr
      have hal := al1 hbs
      generalize ha : ns[m].a = na at c1
      generalize hb : ns[m].b = nb at c2
      generalize hk : ns[m].k = nk at c3
      generalize hr : ns[m].rows = nr at c4
      generalize hc : ns[m].cols = nc at c5
      generalize ho : ns[m].op = op at c0
      have HF : Hid (ns[m].op = op ∧ ns[m].a = na ∧ ns[m].b = nb ∧ ns[m].k = nk ∧ ns[m].rows = nr ∧ ns[m].cols = nc) := ⟨ho, ha, hb, hk, hr, hc⟩
      clear ho ha hb hk hr hc
      go_wp2_with (first | (go_at_call 30; go_must (refine (placed_any ns m hlt _ cap _ (by exact HN.out.below (Bl.more (Bl.refl _) _)) hs).mono ?_; rintro e w1 ⟨r', c', ok', hpl, rfl, hb1⟩; obtain ⟨hcc, hff⟩ := bcell hb1; have hz1 : wr.heap.size + 1 ≤ w1.heap.size := by simpa using hb1.size)) | (go_at_call 18; refine (parts_any _ _).mono ?_; rintro e w' ⟨rfl, rfl⟩) | (go_at_call 16; refine (counted_any _ _).mono ?_; rintro e w' ⟨rfl, rfl⟩))
      all_goals
        have K := nodeOk_of HF.out hpl.out
        have hbw := Bl.trans (Bl.more hbr _) hb1
        clear HF hpl hcc hff hb1 hz1 hal c0 c1 c2 c3 c4 c5 HN
        first
        | (go_ret
           refine ⟨?_, hbw⟩
           rw [not_graph hlt (by rw [K]; go_light; (try simp only [bne_iff_ne, ne_eq] at *); first | (simp [*]; done) | (simp [*]; omega))]
           rfl)
        | (go_roundw
           case rel => exact ⟨m + 1, by omega, by go_num, step_all hall.out hlt (by rw [K]; go_light; (try simp only [bne_eq_false_iff_eq] at *); first | (simp [*]; done) | (simp [*]; omega)), hbw⟩
           case measure => simp [intOf]; omega)
    · have hml : m = ns.length := by omega
      have hg : isGraphB ns = true := is_graph g1 g2 (fun j hj => hall.out j (by omega) hj)
      have HG : Hid (isGraphB ns = true) := hg
      clear hg
      go_wp2
      go_ret
      exact ⟨by rw [HG.out]; rfl, hbr⟩
end Go.Proofs.YtanlmfcllebopaaDoorRR
