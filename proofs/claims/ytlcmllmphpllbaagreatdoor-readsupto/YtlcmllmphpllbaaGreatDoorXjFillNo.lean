/- Builder.Add at one class of Ops, walked (by mkadd.py). -/
import Derived.Test.YtlcmllmphpllbaaGreatDoorXh
namespace Go.Proofs.YtlcmllmphpllbaaGreatDoor
open Go.RowKit

set_option maxHeartbeats 2000000 in
set_option maxRecDepth 100000 in
theorem add_fill_no (base bb : Nat) (n : Nd) (vo : Option Addr) (vc : Nat) (ns : List Nd) (ins : Nat → Int × Int) (w : World) (ho : n.op = 1 ∨ n.op = 2 ∨ n.op = 3 ∨ n.op = 4 ∨ n.op = 5 ∨ n.op = 6 ∨ n.op = 7 ∨ n.op = 8) (hB : Bld w base bb (.slice vo ns.length vc) ns ins)
    (hop : n.op = 2) (hp : (partsTo n.op n (saysZ n.op).length).all (fun x => aheadB x ns.length) = true)
    (hsh : (sideB n.rows && sideB n.cols) = false) :
    Calls Tryz.prog 25 #[.pointer (some ⟨bb, 0, none⟩), .agg #[.int .i64 n.op, .int .i64 n.a, .int .i64 n.b, .int .i64 n.k, .int .i64 n.rows, .int .i64 n.cols]] w fun e w' => e = .returned (.bool false) ∧ Below w.heap.size w w' := by
  have HO : Hid (n.op = 1 ∨ n.op = 2 ∨ n.op = 3 ∨ n.op = 4 ∨ n.op = 5 ∨ n.op = 6 ∨ n.op = 7 ∨ n.op = 8) := ho
  clear ho
  have HB : Hid (Bld w base bb (.slice vo ns.length vc) ns ins) := hB
  clear hB
  have hsf : Hid (shapeF n.op = 46) := by show shapeF n.op = _; simp [shapeF, hop]
  have k1 : Hid (¬ (1 : Int) ∈ saysZ n.op) := by show ¬ (1 : Int) ∈ saysZ n.op; simp [saysZ, hop]
  have k2 : Hid (¬ (2 : Int) ∈ saysZ n.op) := by show ¬ (2 : Int) ∈ saysZ n.op; simp [saysZ, hop]
  clear hop
  have HC : Hid ((sideB n.rows && sideB n.cols) = false) := hsh
  clear hsh
  go_enter Tryz.func25, Tryz.ntmps25
  go_wp2_with fail
  refine (known_lit _ _ HO.out).mono ?_
  rintro e w1 ⟨b, rfl, hs1, hb1⟩
  have hN1 := NdCell.below (NdCell.new w n) hb1
  have HN1 : Hid (NdCell w1 w.heap.size n) := hN1
  obtain ⟨z1, m0, m1, m2, m3, m4, m5, _⟩ := hN1
  have HW1 : Hid (Below w.heap.size w w1) := Bl.trans (Bl.more (Bl.refl w) _) hb1
  have hB1 := Bld.below HB.out HW1.out
  have HB1 : Hid (Bld w1 base bb (.slice vo ns.length vc) ns ins) := hB1
  have zb1 := hB1.2.1
  have cb1 := hB1.2.2.2.1
  clear hB1 hb1
  have hal := al1 z1
  have halb := al1 zb1
  have HS1 : Hid (SaysAt w1 b n.op) := hs1
  clear hs1
  go_wp2_with fail
  refine (hasParts_lit n.op b bb n vo ns.length vc _ ?_ ?_ ?_).mono ?_
  · exact HS1.out.below (Bl.more (Bl.refl _) _)
  · simp; omega
  · rw [halb]; exact cb1
  rintro e w2 ⟨rfl, hb2⟩
  have HN2 : Hid (NdCell w2 w.heap.size n) := (HN1.out.below (Bl.more (Bl.refl _) _)).below hb2
  have HK2 : Hid (KindCell w2 w1.heap.size n.op b) := (KindCell.new w1 n.op b).below hb2
  have HS2 : Hid (SaysAt w2 b n.op) := (HS1.out.below (Bl.more (Bl.refl _) _)).below hb2
  have HB2 : Hid (Bld w2 base bb (.slice vo ns.length vc) ns ins) := (HB1.out.below (Bl.more (Bl.refl _) _)).below hb2
  have HW2 : Hid (Below w.heap.size w w2) := Bl.trans (Bl.trans HW1.out (Bl.more (Bl.refl _) _)) hb2
  clear hb2 hal halb m0 m1 m2 m3 m4 m5 cb1 HN1 HB1 HS1
  go_wp2
  obtain ⟨z2, n0, n1, n2, n3, n4, n5, _⟩ := HN2.out
  obtain ⟨zk, q0, q1, q2, q3, q4⟩ := HK2.out
  have zb2 := HB2.out.2.1
  have cb2 := HB2.out.2.2.2.1
  rw [hsf.out] at q2
  have hNs : Hid (Nodes w2 vo ns) := by
    obtain ⟨ao', cap', hv, hN, _⟩ := nodes_of_owns HB2.out.2.2.2.2.1
    simp only [Value.slice.injEq, true_and] at hv
    rw [hv.1]; exact hN
  go_region_held3 (fun w' => w'.cell? ⟨bb, 0, none⟩ = some (.slice vo ns.length vc) ∧ w'.cell? ⟨w1.heap.size, 0, none⟩ = some (.string (bs (wordL n.op))) ∧ w'.cell? ⟨w1.heap.size, 1, none⟩ = some (.slice (some ⟨b, 0, none⟩) (saysZ n.op).length (saysZ n.op).length) ∧ w'.cell? ⟨w1.heap.size, 2, none⟩ = some (.func (.func 46) #[] #[]) ∧ w'.cell? ⟨w1.heap.size, 3, none⟩ = some (.func (.func (costF n.op)) #[] #[]) ∧ w'.cell? ⟨w1.heap.size, 4, none⟩ = some (.func (.func (atF n.op)) #[] #[])
      ∧ w'.cell? ⟨w.heap.size, 0, none⟩ = some (.int .i64 n.op) ∧ w'.cell? ⟨w.heap.size, 1, none⟩ = some (.int .i64 n.a) ∧ w'.cell? ⟨w.heap.size, 2, none⟩ = some (.int .i64 n.b) ∧ w'.cell? ⟨w.heap.size, 3, none⟩ = some (.int .i64 n.k) ∧ w'.cell? ⟨w.heap.size, 4, none⟩ = some (.int .i64 n.rows) ∧ w'.cell? ⟨w.heap.size, 5, none⟩ = some (.int .i64 n.cols))
    (first | go_keep | (go_split_ands; refine ⟨?_, ?_, ?_, ?_, ?_, ?_, ?_, ?_, ?_, ?_, ?_, ?_⟩ <;> (rw [hb4.cell (by simp; omega)]; assumption)) | (go_split_ands; refine ⟨?_, ?_, ?_, ?_, ?_, ?_, ?_, ?_, ?_, ?_, ?_, ?_⟩ <;> (rw [hb3.cell (by simp; omega)]; assumption)) | (go_split_ands; refine ⟨?_, ?_, ?_, ?_, ?_, ?_, ?_, ?_, ?_, ?_, ?_, ?_⟩ <;> (rw [cell_set2 _ _ _ (by simp; omega)]; assumption)) | (trace_state; fail))
    (first | (go_at_call 35; refine (look_none_lit ns vo vc n.op b n _ ?_ ?_ k1.out k2.out _ hsf.out).mono ?_; (exact HS2.out.below (by repeat (first | exact Bl.refl _ | refine Bl.more ?_ _ | refine Below.drew ?_))); (exact hNs.out.below (by repeat (first | exact Bl.refl _ | refine Bl.more ?_ _ | refine Below.drew ?_))); rintro e w3 ⟨rfl, hb3⟩; obtain ⟨hcc3, hff3⟩ := bcell hb3; have y3 := lt_kept hb3; have z3 := hb3.size; simp at z3) | (go_at_call 46; refine (said_no n _ _ _ _ _ HC.out).mono ?_; rintro e w4 ⟨rfl, hb4⟩; obtain ⟨hcc4, hff4⟩ := bcell hb4; have z4 := hb4.size; (try simp at z4)))
  all_goals
    go_wp2
    go_ret
    refine ⟨rfl, ?_⟩
    have hB3 := Bl.trans (Bl.trans HW2.out (by repeat (first | exact Bl.refl _ | refine Bl.more ?_ _ | refine Below.drew ?_))) hb3
    have hB4 := Bl.trans (Bl.trans hB3 (by repeat (first | exact Bl.refl _ | refine Bl.more ?_ _ | refine Below.drew ?_))) hb4
    have y1 := HW2.out.size
    have y2 := hB3.size
    clear hcc3 hff3 hcc4 hff4
    repeat (first | exact hB4 | refine Below.drew ?_ | refine Bl.more ?_ _ | refine Below.setCell ?_ ?_ _)
    all_goals (dsimp only; omega)
end Go.Proofs.YtlcmllmphpllbaaGreatDoor
