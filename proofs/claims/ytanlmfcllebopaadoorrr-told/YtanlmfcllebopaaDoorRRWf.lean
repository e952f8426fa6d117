/- thriftlaw.copied, walked. -/
import Derived.Test.YtanlmfcllebopaaDoorRRWa
namespace Go.Proofs.YtanlmfcllebopaaDoorRR
open Go.RowKit
def cellsOf : List Nd → List Value
  | [] => []
  | n :: ns => .int .i64 n.op :: .int .i64 n.a :: .int .i64 n.b :: .int .i64 n.k :: .int .i64 n.rows :: .int .i64 n.cols :: cellsOf ns
theorem cellsOf_len (ns : List Nd) : (cellsOf ns).length = ns.length * 6 := by
  induction ns with
  | nil => rfl
  | cons n ns ih => simp only [cellsOf, List.length_cons]; omega
theorem cellsOf_app (ns ms : List Nd) : cellsOf (ns ++ ms) = cellsOf ns ++ cellsOf ms := by
  induction ns with
  | nil => rfl
  | cons n ns ih => simp only [List.cons_append, cellsOf, ih]
theorem cellsOf_at (ns : List Nd) : ∀ i, (h : i < ns.length) → (cellsOf ns)[i * 6]? = some (.int .i64 ns[i].op) ∧ (cellsOf ns)[i * 6 + 1]? = some (.int .i64 ns[i].a) ∧ (cellsOf ns)[i * 6 + 2]? = some (.int .i64 ns[i].b) ∧
    (cellsOf ns)[i * 6 + 3]? = some (.int .i64 ns[i].k) ∧ (cellsOf ns)[i * 6 + 4]? = some (.int .i64 ns[i].rows) ∧ (cellsOf ns)[i * 6 + 5]? = some (.int .i64 ns[i].cols) := by
  induction ns with
  | nil => intro i h; exact absurd h (Nat.not_lt_zero _)
  | cons n ns ih =>
    intro i h
    cases i with
    | zero => simp [cellsOf]
    | succ i =>
      have := ih i (by simpa using h)
      have e0 : (i + 1) * 6 = (i * 6) + 1 + 1 + 1 + 1 + 1 + 1 := by omega
      simp only [e0, cellsOf, List.getElem?_cons_succ, List.getElem_cons_succ]
      exact this
theorem nodes_of_owns {w : World} {base : Nat} {v : Value} {ns : List Nd} (h : w.ownsRow base 25 6 v ns.length (cellsOf ns)) : ∃ ao cap, v = .slice ao ns.length cap ∧ Nodes w ao ns ∧ ∀ b o, ao = some ⟨b, o, none⟩ → base ≤ b := by
  rcases h with ⟨h0, ⟨rfl, hn⟩ | ⟨g, cap, cur, rfl, hb, hh, hle, hm, hcs, hcur⟩⟩
  · exact ⟨none, 0, by rw [hn], fun i hi => absurd hi (by omega), fun b o e => by cases e⟩
  · have hw : w.ownsRow base 25 6 (.slice (some ⟨g, 0, none⟩) ns.length cap) ns.length (cellsOf ns) := ⟨h0, .inr ⟨g, cap, cur, rfl, hb, hh, hle, hm, hcs, hcur⟩⟩
    have hg : g < w.heap.size := by
      by_cases hlt : g < w.heap.size
      · exact hlt
      · rw [Array.getElem?_eq_none (by omega)] at hh; cases hh
    refine ⟨some ⟨g, 0, none⟩, cap, rfl, fun i hi => ⟨g, 0, rfl, hg, ?_⟩, fun b o e => by cases e; exact hb⟩
    obtain ⟨a0, a1, a2, a3, a4, a5⟩ := cellsOf_at ns i hi
    simp only [Nat.zero_add]
    exact ⟨(hw.cellAt _ (by omega)).trans a0, (hw.cellAt _ (by omega)).trans a1, (hw.cellAt _ (by omega)).trans a2, (hw.cellAt _ (by omega)).trans a3, (hw.cellAt _ (by omega)).trans a4, (hw.cellAt _ (by omega)).trans a5⟩

theorem infoNd : (Tryd.prog.info? 25).map (fun i => (i.zero, i.size, i.bytes)) = some (some (.agg #[.int .i64 0, .int .i64 0, .int .i64 0, .int .i64 0, .int .i64 0, .int .i64 0]), 6, 48) := by kernel_rfl
theorem underNds : Tryd.prog.underlying 22 = some (.slice 25) := by kernel_rfl

set_option maxHeartbeats 1000000 in
theorem copied_any (ns : List Nd) (ao : Option Addr) (cap : Nat) (w : World) (hn : Nodes w ao ns) (hs : ns.length * 48 ≤ 140737488351232) :
    Calls Tryd.prog 5 #[.slice ao ns.length cap] w fun e w' => (∃ ao' cap', e = .returned (.slice ao' ns.length cap') ∧ Nodes w' ao' ns) ∧ Below w.heap.size w w' := by
  obtain ⟨i0, hi, hz0, hz1, hz2⟩ := info_parts infoNd
  have HI : Hid (i0.zero = some (.agg #[.int .i64 0, .int .i64 0, .int .i64 0, .int .i64 0, .int .i64 0, .int .i64 0]) ∧ i0.size = 6 ∧ i0.bytes = 48 ∧ Tryd.prog.info? 25 = some i0) := ⟨hz0, hz1, hz2, hi⟩
  clear hi hz0 hz1 hz2
  go_enter Tryd.func5, Tryd.ntmps5
  go_wp2
  go_loopw [3, 4] (fun v j wr => ∃ k : Nat, k ≤ ns.length ∧ j = .int .i64 k ∧ wr.ownsRow w.heap.size 25 6 v k (cellsOf (ns.take k)) ∧ Below w.heap.size w wr) (fun _ j _ => ns.length - (intOf j).toNat)
  case atStart => exact ⟨0, Nat.zero_le _, rfl, World.ownsRow_nil _ _ _ _, Bl.refl _⟩
  case round =>
    obtain ⟨k, hk, rfl, hown, hbr⟩ := hrel
    by_cases hlt : k < ns.length
    · obtain ⟨bl, off, rfl, hbs, c0, c1, c2, c3, c4, c5⟩ := hn.below hbr k hlt
      have hsz := hbr.size
      go_wp2_with (at_builtin; refine wpList_append_own _ rfl _ _ 22 rfl w.heap.size 25 i0 _ 6 48 underNds HI.out.2.2.2 HI.out.1 HI.out.2.1 HI.out.2.2.1 rfl (by decide) _ _ _ rfl (hown.alloc _) ⟨wr.heap.size, 0, none⟩ 1 1 [.int .i64 ns[k].op, .int .i64 ns[k].a, .int .i64 ns[k].b, .int .i64 ns[k].k, .int .i64 ns[k].rows, .int .i64 ns[k].cols] rfl rfl ?c1 ?c2 ?c3 ?c4 ?c5 ?_)
      case c1 =>
        intro j u hj
        match j, hj with
        | 0, hj => simp at hj; subst hj; simp [Addr.add, go_sem]
        | 1, hj => simp at hj; subst hj; simp [Addr.add, go_sem]
        | 2, hj => simp at hj; subst hj; simp [Addr.add, go_sem]
        | 3, hj => simp at hj; subst hj; simp [Addr.add, go_sem]
        | 4, hj => simp at hj; subst hj; simp [Addr.add, go_sem]
        | 5, hj => simp at hj; subst hj; simp [Addr.add, go_sem]
        | j + 6, hj => simp at hj
      case c2 => intro u hu; simp at hu; rcases hu with rfl | rfl | rfl | rfl | rfl | rfl <;> rfl
      case c3 => unfold maxLen; omega
      case c4 => omega
      case c5 => simp; omega
      intro v' w1 hown' hgrow _
      have hT : cellsOf (ns.take (k + 1)) = cellsOf (ns.take k) ++ [.int .i64 ns[k].op, .int .i64 ns[k].a, .int .i64 ns[k].b, .int .i64 ns[k].k, .int .i64 ns[k].rows, .int .i64 ns[k].cols] := by
        rw [List.take_succ_eq_append_getElem hlt, cellsOf_app]; rfl
      rw [← hT] at hown'
      clear hT
      have hb1 : Below w.heap.size w w1 := (hbr.alloc hsz _).grown hgrow (by simp; omega) (fun j e => (hown.lt j e).1)
      clear hgrow hown c0 c1 c2 c3 c4 c5
      go_wp2
      go_roundw
      case rel => exact ⟨k + 1, by omega, by go_num, hown', hb1⟩
      case measure => simp [intOf]; omega
    · have hkl : k = ns.length := by omega
      subst hkl
      rw [List.take_length] at hown
      obtain ⟨ao', cap', rfl, hN, _⟩ := nodes_of_owns hown
      have HK : Hid (¬ ns.length < ns.length) := hlt
      clear hlt
      go_wp2
      go_ret
      exact ⟨⟨ao', cap', rfl, hN⟩, hbr⟩
end Go.Proofs.YtanlmfcllebopaaDoorRR
