/- Builder.Add at one class of Ops, walked (by mkadd.py). -/
import Derived.Test.YtlcmllmphpllbaaGreatDoorXh
namespace Go.Proofs.YtlcmllmphpllbaaGreatDoor
open Go.RowKit

set_option maxHeartbeats 2000000 in
set_option maxRecDepth 100000 in
theorem add_in_same (base bb : Nat) (n : Nd) (vo : Option Addr) (vc : Nat) (ns : List Nd) (ins : Nat → Int × Int) (w : World) (ho : n.op = 1 ∨ n.op = 2 ∨ n.op = 3 ∨ n.op = 4 ∨ n.op = 5 ∨ n.op = 6 ∨ n.op = 7 ∨ n.op = 8) (hB : Bld w base bb (.slice vo ns.length vc) ns ins)
    (hL : ns.length ≤ 100) (hop : n.op = 1) (hk : 0 ≤ n.k ∧ n.k < 8) (hz : ((ins n.k.toNat).1 == 0 && (ins n.k.toNat).2 == 0) = false) (hq : ((ins n.k.toNat).1 == n.rows && (ins n.k.toNat).2 == n.cols) = true) (hp : (partsTo n.op n (saysZ n.op).length).all (fun x => aheadB x ns.length) = true)
    (hsh : sideB n.rows = true ∧ sideB n.cols = true) :
    Calls Tryz.prog 25 #[.pointer (some ⟨bb, 0, none⟩), .agg #[.int .i64 n.op, .int .i64 n.a, .int .i64 n.b, .int .i64 n.k, .int .i64 n.rows, .int .i64 n.cols]] w fun e w' => e = .returned (.bool true) ∧ (∃ vo' vc', Bld w' base bb (.slice vo' (ns ++ [(⟨n.op, n.a, n.b, n.k, n.rows, n.cols⟩ : Nd)]).length vc') (ns ++ [⟨n.op, n.a, n.b, n.k, n.rows, n.cols⟩]) ins) ∧ KeptBut bb (Value.slice vo ns.length vc).ownBlock w w' := by
  have HO : Hid (n.op = 1 ∨ n.op = 2 ∨ n.op = 3 ∨ n.op = 4 ∨ n.op = 5 ∨ n.op = 6 ∨ n.op = 7 ∨ n.op = 8) := ho
  clear ho
  have HB : Hid (Bld w base bb (.slice vo ns.length vc) ns ins) := hB
  clear hB
  have hsf : Hid (shapeF n.op = 43) := by show shapeF n.op = _; simp [shapeF, hop]
  have k1 : Hid (¬ (1 : Int) ∈ saysZ n.op) := by show ¬ (1 : Int) ∈ saysZ n.op; simp [saysZ, hop]
  have k2 : Hid (¬ (2 : Int) ∈ saysZ n.op) := by show ¬ (2 : Int) ∈ saysZ n.op; simp [saysZ, hop]
  have HK : Hid (0 ≤ n.k ∧ n.k < 8) := hk
  clear hk
  have hin : (n.op == 1) = true := by simp [hop]
  clear hop
  have HZ : Hid (((ins n.k.toNat).1 == 0 && (ins n.k.toNat).2 == 0) = false) := hz
  have HQ : Hid (((ins n.k.toNat).1 == n.rows && (ins n.k.toNat).2 == n.cols) = true) := hq
  clear hz hq
  have HC : Hid (sideB n.rows = true ∧ sideB n.cols = true) := hsh
  clear hsh
  go_enter Tryz.func25, Tryz.ntmps25
  go_wp2_with fail
  refine (known_lit _ _ HO.out).mono ?_
  rintro e w1 ⟨b, rfl, hs1, hb1⟩
  have hN1 := NdCell.below (NdCell.new w n) hb1
  have HN1 : Hid (NdCell w1 w.heap.size n) := hN1
  obtain ⟨z1, m0, m1, m2, m3, m4, m5, _⟩ := hN1
  have HW1 : Hid (Below w.heap.size w w1) := Bl.trans (Bl.more (Bl.refl w) _) hb1
  have hB1 := Bld.below HB.out HW1.out
  have HB1 : Hid (Bld w1 base bb (.slice vo ns.length vc) ns ins) := hB1
  have zb1 := hB1.2.1
  have cb1 := hB1.2.2.2.1
  clear hB1 hb1
  have hal := al1 z1
  have halb := al1 zb1
  have HS1 : Hid (SaysAt w1 b n.op) := hs1
  clear hs1
  go_wp2_with fail
  refine (hasParts_lit n.op b bb n vo ns.length vc _ ?_ ?_ ?_).mono ?_
  · exact HS1.out.below (Bl.more (Bl.refl _) _)
  · simp; omega
  · rw [halb]; exact cb1
  rintro e w2 ⟨rfl, hb2⟩
  have HN2 : Hid (NdCell w2 w.heap.size n) := (HN1.out.below (Bl.more (Bl.refl _) _)).below hb2
  have HK2 : Hid (KindCell w2 w1.heap.size n.op b) := (KindCell.new w1 n.op b).below hb2
  have HS2 : Hid (SaysAt w2 b n.op) := (HS1.out.below (Bl.more (Bl.refl _) _)).below hb2
  have HB2 : Hid (Bld w2 base bb (.slice vo ns.length vc) ns ins) := (HB1.out.below (Bl.more (Bl.refl _) _)).below hb2
  have HW2 : Hid (Below w.heap.size w w2) := Bl.trans (Bl.trans HW1.out (Bl.more (Bl.refl _) _)) hb2
  clear hb2 hal halb m0 m1 m2 m3 m4 m5 cb1 HN1 HB1 HS1
  go_wp2
  obtain ⟨z2, n0, n1, n2, n3, n4, n5, _⟩ := HN2.out
  obtain ⟨zk, q0, q1, q2, q3, q4⟩ := HK2.out
  have zb2 := HB2.out.2.1
  have cb2 := HB2.out.2.2.2.1
  rw [hsf.out] at q2
  have hNs : Hid (Nodes w2 vo ns) := by
    obtain ⟨ao', cap', hv, hN, _⟩ := nodes_of_owns HB2.out.2.2.2.2.1
    simp only [Value.slice.injEq, true_and] at hv
    rw [hv.1]; exact hN
  go_cut [6, 7] from 23 (fun ok p wr => ∃ sb, ok = .bool true ∧ p = .pointer (some ⟨sb, 0, none⟩) ∧ ShAt wr sb n.rows n.cols ∧ NdCell wr w.heap.size n ∧ Bld wr base bb (.slice vo ns.length vc) ns ins ∧ Below w.heap.size w wr)
  case first =>
    go_region_held3 (fun w' => w'.cell? ⟨bb, 0, none⟩ = some (.slice vo ns.length vc) ∧ w'.cell? ⟨w1.heap.size, 0, none⟩ = some (.string (bs (wordL n.op))) ∧ w'.cell? ⟨w1.heap.size, 1, none⟩ = some (.slice (some ⟨b, 0, none⟩) (saysZ n.op).length (saysZ n.op).length) ∧ w'.cell? ⟨w1.heap.size, 2, none⟩ = some (.func (.func 43) #[] #[]) ∧ w'.cell? ⟨w1.heap.size, 3, none⟩ = some (.func (.func (costF n.op)) #[] #[]) ∧ w'.cell? ⟨w1.heap.size, 4, none⟩ = some (.func (.func (atF n.op)) #[] #[])
        ∧ w'.cell? ⟨w.heap.size, 0, none⟩ = some (.int .i64 n.op) ∧ w'.cell? ⟨w.heap.size, 1, none⟩ = some (.int .i64 n.a) ∧ w'.cell? ⟨w.heap.size, 2, none⟩ = some (.int .i64 n.b) ∧ w'.cell? ⟨w.heap.size, 3, none⟩ = some (.int .i64 n.k) ∧ w'.cell? ⟨w.heap.size, 4, none⟩ = some (.int .i64 n.rows) ∧ w'.cell? ⟨w.heap.size, 5, none⟩ = some (.int .i64 n.cols))
      (first | go_keep | (go_split_ands; refine ⟨?_, ?_, ?_, ?_, ?_, ?_, ?_, ?_, ?_, ?_, ?_, ?_⟩ <;> (rw [hb4.cell (by simp; omega)]; assumption)) | (go_split_ands; refine ⟨?_, ?_, ?_, ?_, ?_, ?_, ?_, ?_, ?_, ?_, ?_, ?_⟩ <;> (rw [hb3.cell (by simp; omega)]; assumption)) | (go_split_ands; refine ⟨?_, ?_, ?_, ?_, ?_, ?_, ?_, ?_, ?_, ?_, ?_, ?_⟩ <;> (rw [cell_set2 _ _ _ (by simp; omega)]; assumption)) | (go_split_ands; refine ⟨?_, ?_, ?_, ?_, ?_, ?_, ?_, ?_, ?_, ?_, ?_, ?_⟩ <;> (refine keep_alloc (o := .cells #[.int .i64 0, .int .i64 0] 60) ?_ ?_; (omega); (assumption))) )
      (first | (go_at_call 35; refine (look_none_lit ns vo vc n.op b n _ ?_ ?_ k1.out k2.out _ hsf.out).mono ?_; (exact HS2.out.below (by repeat (first | exact Bl.refl _ | refine Bl.more ?_ _ | refine Below.drew ?_))); (exact hNs.out.below (by repeat (first | exact Bl.refl _ | refine Bl.more ?_ _ | refine Below.drew ?_))); rintro e w3 ⟨rfl, hb3⟩; obtain ⟨hcc3, hff3⟩ := bcell hb3; have y3 := lt_kept hb3; have z3 := hb3.size; simp at z3) | (go_at_call 43; refine (input_yes n _ _ _ _ _ HK.out HC.out.1 HC.out.2).mono ?_; rintro e w4 ⟨rfl, hb4⟩; obtain ⟨hcc4, hff4⟩ := bcell hb4; have z4 := hb4.size; (try simp at z4)))

    · have hB3 : Below w2.heap.size w2 w3 := Bl.trans (by repeat (first | exact Bl.refl _ | refine Bl.more ?_ _ | refine Below.drew ?_)) hb3
      have hB4 : Below w2.heap.size w2 w4 := Bl.trans (Bl.trans hB3 (by repeat (first | exact Bl.refl _ | refine Bl.more ?_ _ | refine Below.drew ?_))) hb4
      have y2 := hB3.size
      have y4 := hB4.size
      go_wp2
      go_meet
      case rel =>
        refine ⟨_, rfl, rfl, ⟨?_, ?_, ?_⟩, HN2.out.below ?_, HB2.out.below ?_, Bl.trans HW2.out ?_⟩
        case refine_1 => simp
        case refine_2 => simp [go_sem]
        case refine_3 => simp [go_sem]
        all_goals
          repeat (first | exact hB4 | refine Below.drew ?_ | refine Bl.more ?_ _ | refine Below.setCell ?_ ?_ _)
          all_goals (first | omega | (dsimp only; omega))
    · have hB3 : Below w2.heap.size w2 w3 := Bl.trans (by repeat (first | exact Bl.refl _ | refine Bl.more ?_ _ | refine Below.drew ?_)) hb3
      have hB4 : Below w2.heap.size w2 w4 := Bl.trans (Bl.trans hB3 (by repeat (first | exact Bl.refl _ | refine Bl.more ?_ _ | refine Below.drew ?_))) hb4
      have y2 := hB3.size
      have y4 := hB4.size
      obtain ⟨g0, g1, _⟩ := sh_kept hb4
      have gz := hb4.size
      simp at gz
      go_wp2
      go_meet
      case rel =>
        refine ⟨_, rfl, rfl, ⟨?_, ?_, ?_⟩, HN2.out.below ?_, HB2.out.below ?_, Bl.trans HW2.out ?_⟩
        case refine_1 => simp; omega
        case refine_2 => exact (set2_at g0 g1).1
        case refine_3 => exact (set2_at g0 g1).2
        all_goals
          repeat (first | exact hB4 | refine Below.drew ?_ | refine Bl.more ?_ _ | refine Below.setCell ?_ ?_ _)
          all_goals (first | omega | (dsimp only; omega))
    · have hB3 : Below w2.heap.size w2 w3 := Bl.trans (by repeat (first | exact Bl.refl _ | refine Bl.more ?_ _ | refine Below.drew ?_)) hb3
      have hB4 : Below w2.heap.size w2 w4 := Bl.trans (Bl.trans hB3 (by repeat (first | exact Bl.refl _ | refine Bl.more ?_ _ | refine Below.drew ?_))) hb4
      have y2 := hB3.size
      have y4 := hB4.size
      have hb3' : Below (w2.alloc (.cells #[.int .i64 0, .int .i64 0] 60)).heap.size (w2.alloc (.cells #[.int .i64 0, .int .i64 0] 60)) w3 := Bl.trans (Below.drew (Bl.refl _)) hb3
      obtain ⟨k0, k1, _⟩ := sh_kept hb3'
      have gz := hb3'.size
      simp at gz
      have g0 := (hb4.cell (p := ⟨w2.heap.size, 0, none⟩) (show w2.heap.size < w3.heap.size by omega)).trans k0
      have g1 := (hb4.cell (p := ⟨w2.heap.size, 1, none⟩) (show w2.heap.size < w3.heap.size by omega)).trans k1
      go_wp2
      go_meet
      case rel =>
        refine ⟨_, rfl, rfl, ⟨?_, ?_, ?_⟩, HN2.out.below ?_, HB2.out.below ?_, Bl.trans HW2.out ?_⟩
        case refine_1 => simp; omega
        case refine_2 => exact (set2_at g0 g1).1
        case refine_3 => exact (set2_at g0 g1).2
        all_goals
          repeat (first | exact hB4 | refine Below.drew ?_ | refine Bl.more ?_ _ | refine Below.setCell ?_ ?_ _)
          all_goals (first | omega | (dsimp only; omega))
  case rest =>
    obtain ⟨sb, rfl, rfl, hsh, hnd, hbl, hbw⟩ := hcut
    have HBL : Hid (Bld wc base bb (.slice vo ns.length vc) ns ins) := hbl
    have HND : Hid (NdCell wc w.heap.size n) := hnd
    obtain ⟨zs, e0, e1⟩ := hsh
    obtain ⟨zn, n0', n1', n2', n3', n4', n5', nf⟩ := hnd
    clear n0 n1 n2 n3 n4 n5 q0 q1 q2 q3 q4 cb2
    obtain ⟨r, hr⟩ : ∃ r, n.rows = r := ⟨_, rfl⟩
    obtain ⟨c, hc⟩ : ∃ c, n.cols = c := ⟨_, rfl⟩
    rw [hr] at e0
    rw [hc] at e1
    have HR : Hid (n.rows = r ∧ n.cols = c) := ⟨hr, hc⟩
    clear hr hc
    go_wp2_with fail
    refine (keep_thereZ bb n.k r c (ins n.k.toNat).1 (ins n.k.toNat).2 _ HK.out HBL.out.2.1 (HBL.out.2.2.2.2.2.2 _ (by have := HK.out; omega)).1 (HBL.out.2.2.2.2.2.2 _ (by have := HK.out; omega)).2 HZ.out).mono ?_
    rintro e w5 ⟨rfl, hb5⟩
    have hqq : ((ins n.k.toNat).1 == r && (ins n.k.toNat).2 == c) = true := by rw [← HR.out.1, ← HR.out.2]; exact HQ.out
    rw [hqq]
    clear hqq
    have HND5 : Hid (NdCell w5 w.heap.size n) := HND.out.below hb5
    clear n0' n1' n2' n3' n4' n5' nf
    obtain ⟨zn5, n0', n1', n2', n3', n4', n5', nf⟩ := HND5.out
    have e05 := (hb5.cell (p := ⟨sb, 0, none⟩) (by exact zs)).trans e0
    have e15 := (hb5.cell (p := ⟨sb, 1, none⟩) (by exact zs)).trans e1
    have hbw5 := Bl.trans hbw hb5
    go_upto_region 7 with (fail)
    go_cut [6] from 23 (fun ok wr => ok = .bool true ∧ NdCell wr w.heap.size ⟨n.op, n.a, n.b, n.k, r, c⟩ ∧ Below w.heap.size w wr)
    case first =>
      go_wp2
      go_region
      go_wp2
      go_meet
      case rel =>
        refine ⟨rfl, NdCell.set45 HND5.out r c, ?_⟩
        repeat (first | exact hbw5 | refine Below.drew ?_ | refine Below.setCell ?_ ?_ _)
        all_goals (first | omega | (dsimp only; omega))
    case rest =>
      obtain ⟨rfl, hnd2, hbw2⟩ := hcut
      have HB8 : Hid (Bld wc base bb (.slice vo ns.length vc) ns ins) := HB.out.below hbw2
      obtain ⟨u1, u2, u3, u4, u5, u6, u7⟩ := HB8.out
      obtain ⟨v0, m0, m1, m2, m3, m4, m5, mf⟩ := hnd2
      obtain ⟨i0, hi, hz0, hz1, hz2⟩ := info_parts infoNd
      have HI : Hid (i0.zero = some (.agg #[.int .i64 0, .int .i64 0, .int .i64 0, .int .i64 0, .int .i64 0, .int .i64 0]) ∧ i0.size = 6 ∧ i0.bytes = 48 ∧ Tryz.prog.info? 42 = some i0) := ⟨hz0, hz1, hz2, hi⟩
      clear hi hz0 hz1 hz2
      have HW0 : Hid (∀ k, (Value.slice vo ns.length vc).ownBlock = some k → base ≤ k ∧ k < w.heap.size) := HB.out.2.2.2.2.1.lt
      have HO5 : Hid (wc.ownsRow base 42 6 (.slice vo ns.length vc) ns.length (cellsOf ns)) := u5
      have HU7 : Hid (∀ k, k < 8 → wc.cell? ⟨bb, 1 + k * 2, none⟩ = some (.int .i64 (ins k).1) ∧ wc.cell? ⟨bb, 1 + k * 2 + 1, none⟩ = some (.int .i64 (ins k).2)) := u7
      have hne1 : some bb ≠ (Value.slice vo ns.length vc).ownBlock := fun e => by have := HW0.out bb e.symm; omega
      have hne2 : some w.heap.size ≠ (Value.slice vo ns.length vc).ownBlock := fun e => by have := HW0.out _ e.symm; omega
      clear u5 u7
      have halb := al1 u2
      go_wp2
      have hal2 := al1 v0
      go_region_law ((refine step_append_lies _ (by rfl) _ _ _ (by rfl) base 42 i0 _ 6 48 underNds HI.out.2.2.2 HI.out.1 HI.out.2.1 HI.out.2.2.1 rfl (by omega) (.slice vo ns.length vc) ns.length (cellsOf ns) (by rfl) (by exact HO5.out.alloc _) ⟨wc.heap.size, 0, none⟩ 1 1 [.int .i64 n.op, .int .i64 n.a, .int .i64 n.b, .int .i64 n.k, .int .i64 r, .int .i64 c] (by rfl) (by rfl) (World.news_of_block (cs := #[.int .i64 n.op, .int .i64 n.a, .int .i64 n.b, .int .i64 n.k, .int .i64 r, .int .i64 c]) (t := 42) (fr := (0, 0)) (heap_alloc_new wc _)) (by simp [Value.oneCell']) (by omega) (by unfold maxLen; omega) (by omega) (by simp; omega) (wc.heap.size + 1) (by simp) ?_; intro g9 cap9 w9 hown9 hgrow hat hlt9; have t0 := (hgrow.cell_far ⟨bb, 0, none⟩ (by simp; omega) hne1).trans ((halb _ _).trans u4); have tf : ∀ j, w9.frozen? ⟨bb, j, none⟩ = false := fun j => (hgrow.frozen_far ⟨bb, j, none⟩ (by simp; omega) hne1).trans (((Bl.more (Bl.refl wc) _).frozen (p := ⟨bb, j, none⟩) (by exact u2)).trans (u6 j))))
      all_goals
        have P := bld_push (n' := ⟨n.op, n.a, n.b, n.k, r, c⟩) HB8.out hown9 (undrew hgrow)
        have Q := keptBut_push (bb := bb) (KeptBut.of hbw2) (undrew hgrow) (v' := .slice (some ⟨g9, 0, none⟩) (ns.length + 1) cap9)
        clear hgrow hown9 hat t0 tf
        go_wp2
        go_ret
        rw [HR.out.1, HR.out.2]
        exact ⟨rfl, ⟨_, _, P⟩, Q⟩
end Go.Proofs.YtlcmllmphpllbaaGreatDoor
