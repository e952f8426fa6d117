/- graphs.IsGraph, walked. -/
import Derived.Test.YtanlmfcllebopaaDoorRRXl
namespace Go.Proofs.YtanlmfcllebopaaDoorRR
open Go.RowKit

theorem putZ_op (f : Int) (n : Nd) (x : Int) : (putZ f n x).op = n.op := by
  unfold putZ; repeat' split
  all_goals rfl
theorem saidTo_op (op : Int) (n : Nd) : ∀ m, (saidTo op n m).op = n.op
  | 0 => rfl
  | m + 1 => by rw [saidTo, putZ_op]; exact saidTo_op op n m
theorem saidOf_known {n : Nd} (h : knownP n.op) : knownP (saidOf n).op := by
  rw [saidOf, saidTo_op]; exact h
theorem bld_last {w : World} {base bb vc m : Nat} {vo : Option Addr} {l : List Nd} {n : Nd} {ins : Nat → Int × Int} (hl : l.length = m) (h : Bld w base bb (.slice vo (l ++ [n]).length vc) (l ++ [n]) ins) :
    w.cell? ⟨bb, 0, none⟩ = some (.slice vo (m + 1) vc) ∧ NodeAt w vo m n := by
  subst hl
  obtain ⟨ao, cap, hv, hN, _⟩ := nodes_of_owns h.2.2.2.2.1
  simp only [Value.slice.injEq, true_and] at hv
  have hc := h.2.2.2.1
  have hlen : (l ++ [n]).length = l.length + 1 := by simp
  rw [hlen] at hc
  refine ⟨hc, ?_⟩
  have := hN l.length (by simp)
  rw [← hv.1] at this
  simpa using this
theorem bld_new (w : World) (c : Array Value) (hc : c = #[.slice none 0 0, .int .i64 0, .int .i64 0, .int .i64 0, .int .i64 0, .int .i64 0, .int .i64 0, .int .i64 0, .int .i64 0, .int .i64 0, .int .i64 0, .int .i64 0, .int .i64 0, .int .i64 0, .int .i64 0, .int .i64 0, .int .i64 0]) (t : TypeId) :
    Bld (w.alloc (.cells c t)) (w.heap.size + 1) w.heap.size (.slice none 0 0) [] (fun _ => (0, 0)) := by
  subst hc
  refine ⟨by omega, by simp, by simp, by simp [go_sem], World.ownsRow_nil _ _ _ _, fun j => by simp [go_sem], fun k hk => ?_⟩
  obtain rfl | rfl | rfl | rfl | rfl | rfl | rfl | rfl : k = 0 ∨ k = 1 ∨ k = 2 ∨ k = 3 ∨ k = 4 ∨ k = 5 ∨ k = 6 ∨ k = 7 := by omega
  all_goals simp [go_sem]
theorem NdCell.keptBut {w w' : World} {b bb : Nat} {row : Option Nat} {n : Nd} (h : NdCell w b n) (hk : KeptBut bb row w w') (h1 : b ≠ bb) (h2 : some b ≠ row) : NdCell w' b n := by
  obtain ⟨hs, c0, c1, c2, c3, c4, c5, hf⟩ := h
  have hb := hk.2 b hs h1 h2
  refine ⟨Nat.lt_of_lt_of_le hs hk.1.size, ?_, ?_, ?_, ?_, ?_, ?_, fun j => ?_⟩
  · exact (World.cell?_of_block (a := ⟨b, 0, none⟩) hb).trans c0
  · exact (World.cell?_of_block (a := ⟨b, 1, none⟩) hb).trans c1
  · exact (World.cell?_of_block (a := ⟨b, 2, none⟩) hb).trans c2
  · exact (World.cell?_of_block (a := ⟨b, 3, none⟩) hb).trans c3
  · exact (World.cell?_of_block (a := ⟨b, 4, none⟩) hb).trans c4
  · exact (World.cell?_of_block (a := ⟨b, 5, none⟩) hb).trans c5
  · exact (World.frozen?_of_block (a := ⟨b, j, none⟩) hb).trans (hf j)

set_option maxHeartbeats 10000000 in
set_option maxRecDepth 100000 in
theorem pIsGraph_any (ns : List Nd) (ao : Option Addr) (cap : Nat) (w : World) (hn : Nodes w ao ns) :
    Calls Tryd.prog 12 #[.slice ao ns.length cap] w fun e w' => e = .returned (.bool (isGraphB ns)) ∧ Below w.heap.size w w' := by
  by_cases h1 : ns.length < 1
  · have hg : isGraphB ns = false := by simp [isGraphB]; omega
    go_enter Tryd.func12, Tryd.ntmps12
    go_wp2
    go_ret
    exact ⟨rfl, Bl.refl _⟩
  by_cases h2 : 100 < ns.length
  · have hg : isGraphB ns = false := by simp [isGraphB]; omega
    have HG : Hid (isGraphB ns = false) := hg
    clear hg
    go_enter Tryd.func12, Tryd.ntmps12
    go_wp2
    go_ret
    exact ⟨by rw [HG.out]; rfl, Bl.refl _⟩
  have g1 : 1 ≤ ns.length := by omega
  have g2 : ns.length ≤ 100 := by omega
  go_enter Tryd.func12, Tryd.ntmps12
  go_wp2
  go_loopw [18] (fun j wr => ∃ m : Nat, m ≤ ns.length ∧ j = .int .i64 m ∧ Hid (∀ j, (hj : j < m) → (hl : j < ns.length) → nodeOk ns j ns[j] = true) ∧ Hid (∃ vo vc ins, Bld wr (w.heap.size + 1) w.heap.size (.slice vo (ns.take m).length vc) (ns.take m) ins ∧ TieIn ins (ns.take m)) ∧ Below w.heap.size w wr) (fun j _ => ns.length - (intOf j).toNat)
  case atStart =>
    refine ⟨0, Nat.zero_le _, rfl, fun j hj => absurd hj (Nat.not_lt_zero _), ⟨none, 0, fun _ => (0, 0), ?_, ?_⟩, Bl.more (Bl.refl _) _⟩
    · exact bld_new w _ rfl _
    · exact TieIn.nil
  case round =>
    obtain ⟨m, hm, rfl, hall, hbld, hbr⟩ := hrel
    by_cases hlt : m < ns.length
    · obtain ⟨vo, vc, ins, hB, hT⟩ := hbld.out
      clear hbld
      have hlen : (ns.take m).length = m := by simp; omega
      have hnr := hn.below hbr
      obtain ⟨bl, off, rfl, hbs, c0, c1, c2, c3, c4, c5⟩ := hnr m hlt
      have hal := al1 hbs
      have HB : Hid (Bld wr (w.heap.size + 1) w.heap.size (.slice vo (ns.take m).length vc) (ns.take m) ins) := hB
      clear hB hnr
      by_cases hkn : knownP ns[m].op
      · have HO : Hid (knownP ns[m].op) := hkn
        have HRow : Hid (∀ k, (Value.slice vo (ns.take m).length vc).ownBlock = some k → w.heap.size + 1 ≤ k ∧ k < wr.heap.size) := HB.out.2.2.2.2.1.lt
        have HSZ : Hid (w.heap.size < wr.heap.size) := HB.out.2.1
        obtain ⟨hyes, hno⟩ := nodeOk_iff_add hlt hT hkn
        clear hkn hT
        cases hok : nodeOk ns m ns[m]
        · have HNG : Hid (isGraphB ns = false) := not_graph hlt hok
          have hno := hno hok
          clear hyes hok hall
          cases hadd : addZ (ns.take m) ins (saidOf ns[m])
          · clear hno
            have HA : Hid (addZ (ns.take m) ins (saidOf ns[m]) = none) := hadd
            clear hadd
            go_wp2_with fail
            refine (known_lit _ _ HO.out).mono ?_
            rintro e w1 ⟨b, rfl, hs1, hb1⟩
            have HN1 : Hid (NdCell w1 wr.heap.size ns[m]) := NdCell.below (NdCell.new wr ns[m]) hb1
            have HW1 : Hid (Below wr.heap.size wr w1) := Bl.trans (Bl.more (Bl.refl wr) _) hb1
            have HB1 : Hid (Bld w1 (w.heap.size + 1) w.heap.size (.slice vo (ns.take m).length vc) (ns.take m) ins) := Bld.below HB.out HW1.out
            have HS1 : Hid (SaysAt w1 b ns[m].op) := hs1
            clear hs1 hb1 HB
            obtain ⟨z1, m0, m1, m2, m3, m4, m5, _⟩ := HN1.out
            have halb := al1 z1
            go_wp2
            first | (go_region_with (first | (go_at_call 25; refine (said_any ns[m].op b ns[m] _ ?_).mono ?_; (exact HS1.out.below (by repeat (first | exact Bl.refl _ | refine Bl.more ?_ _ | refine Below.drew ?_))); rintro e w3 ⟨rfl, hb3⟩; have HN3 : Hid (NdCell w3 wr.heap.size ns[m]) := NdCell.below (NdCell.below HN1.out (by repeat (first | exact Bl.refl _ | refine Bl.more ?_ _ | refine Below.drew ?_))) hb3; have HW3 : Hid (Below wr.heap.size wr w3) := Bl.trans (Bl.trans HW1.out (by repeat (first | exact Bl.refl _ | refine Bl.more ?_ _ | refine Below.drew ?_))) hb3; have HB3 : Hid (Bld w3 (w.heap.size + 1) w.heap.size (.slice vo (ns.take m).length vc) (ns.take m) ins) := Bld.below (Bld.below HB1.out (by repeat (first | exact Bl.refl _ | refine Bl.more ?_ _ | refine Below.drew ?_))) hb3; clear hb3) | (go_at_call 24; refine (add_no (w.heap.size + 1) w.heap.size (saidOf ns[m]) vo vc (ns.take m) ins _ ?_ ?_ ?_ HA.out).mono ?_; (exact saidOf_known HO.out); (exact HB3.out); (rw [hlen]; omega); rintro e w4 ⟨rfl, hb4⟩))) | fail
            all_goals
              go_wp2
              go_ret
              exact ⟨by rw [HNG.out]; rfl, Bl.trans (Bl.trans hbr HW3.out) hb4⟩
          · rename_i p
            obtain ⟨n', ins'⟩ := p
            have hne := hno n' ins' hadd
            clear hno
            have HA : Hid (addZ (ns.take m) ins (saidOf ns[m]) = some (n', ins')) := hadd
            clear hadd
            have hsm : sameNd n' ns[m] = false := Bool.eq_false_iff.2 (fun e => hne ((sameNd_iff _ _).1 e))
            have hr : ∀ w, (binOp .neq 25 (.agg #[.int .i64 n'.op, .int .i64 n'.a, .int .i64 n'.b, .int .i64 n'.k, .int .i64 n'.rows, .int .i64 n'.cols]) (.agg #[.int .i64 ns[m].op, .int .i64 ns[m].a, .int .i64 ns[m].b, .int .i64 ns[m].k, .int .i64 ns[m].rows, .int .i64 ns[m].cols])).run Tryd.prog w = .ok (.bool true) w := fun w => by
              have := run_neq_nd n' ns[m] w
              rwa [hsm] at this
            have hg : ∀ (x y : Operand) xs ys w, (eqGuard .neq 25 x y (.agg xs) (.agg ys)).run Tryd.prog w = .ok () w := fun x y xs ys w => run_eqGuard_agg w _ _ x y xs ys guardNd
            clear hne hsm
            go_wp2_with fail
            refine (known_lit _ _ HO.out).mono ?_
            rintro e w1 ⟨b, rfl, hs1, hb1⟩
            have HN1 : Hid (NdCell w1 wr.heap.size ns[m]) := NdCell.below (NdCell.new wr ns[m]) hb1
            have HW1 : Hid (Below wr.heap.size wr w1) := Bl.trans (Bl.more (Bl.refl wr) _) hb1
            have HB1 : Hid (Bld w1 (w.heap.size + 1) w.heap.size (.slice vo (ns.take m).length vc) (ns.take m) ins) := Bld.below HB.out HW1.out
            have HS1 : Hid (SaysAt w1 b ns[m].op) := hs1
            clear hs1 hb1 HB
            obtain ⟨z1, m0, m1, m2, m3, m4, m5, _⟩ := HN1.out
            have halb := al1 z1
            go_wp2
            first | (go_region_with (first | (go_at_call 25; refine (said_any ns[m].op b ns[m] _ ?_).mono ?_; (exact HS1.out.below (by repeat (first | exact Bl.refl _ | refine Bl.more ?_ _ | refine Below.drew ?_))); rintro e w3 ⟨rfl, hb3⟩; have HN3 : Hid (NdCell w3 wr.heap.size ns[m]) := NdCell.below (NdCell.below HN1.out (by repeat (first | exact Bl.refl _ | refine Bl.more ?_ _ | refine Below.drew ?_))) hb3; have HW3 : Hid (Below wr.heap.size wr w3) := Bl.trans (Bl.trans HW1.out (by repeat (first | exact Bl.refl _ | refine Bl.more ?_ _ | refine Below.drew ?_))) hb3; have HB3 : Hid (Bld w3 (w.heap.size + 1) w.heap.size (.slice vo (ns.take m).length vc) (ns.take m) ins) := Bld.below (Bld.below HB1.out (by repeat (first | exact Bl.refl _ | refine Bl.more ?_ _ | refine Below.drew ?_))) hb3; clear hb3) | (go_at_call 24; refine (add_yes (w.heap.size + 1) w.heap.size (saidOf ns[m]) vo vc (ns.take m) ins _ n' ins' ?_ ?_ ?_ HA.out).mono ?_; (exact saidOf_known HO.out); (exact HB3.out); (rw [hlen]; omega); rintro e w4 ⟨rfl, ⟨vo', vc', hbl'⟩, hk4⟩; obtain ⟨cb4, bl', off', rfl, hbs', d0, d1, d2, d3, d4, d5⟩ := bld_last hlen hbl'; have HB4 : Hid (Bld w4 (w.heap.size + 1) w.heap.size (.slice (some ⟨bl', off', none⟩) (ns.take m ++ [n']).length vc') (ns.take m ++ [n']) ins') := hbl'; clear hbl'; have HK4 : Hid (KeptBut w.heap.size (Value.slice vo (ns.take m).length vc).ownBlock w3 w4) := hk4; clear hk4; obtain ⟨_, n40, n41, n42, n43, n44, n45, _⟩ := NdCell.keptBut HN3.out HK4.out (by have := HSZ.out; omega) (fun e => by have := HRow.out _ e.symm; omega)))) | fail
            all_goals
              go_wp2
              go_ret
              exact ⟨by rw [HNG.out]; rfl, Bl.trans hbr (HW3.out.mono (by exact Nat.le_refl _)) |>.trans (HK4.out.below (Nat.le_refl _) (fun k e => by have := HRow.out k e; omega) (by have := HSZ.out; have := HW3.out.size; omega))⟩
        · obtain ⟨ins', hadd, hT'⟩ := hyes hok
          clear hyes hno
          obtain ⟨n', hn'⟩ : ∃ n', n' = ns[m] := ⟨_, rfl⟩
          rw [← hn'] at hadd
          have HE : Hid (n' = ns[m]) := hn'
          have HT' : Hid (TieIn ins' (ns.take (m + 1))) := hT'
          have HALL : Hid (∀ j, (hj : j < m + 1) → (hl : j < ns.length) → nodeOk ns j ns[j] = true) := step_all hall.out hlt hok
          have HA : Hid (addZ (ns.take m) ins (saidOf ns[m]) = some (n', ins')) := by rw [hn'] at hadd ⊢; exact hadd
          have hr : ∀ w, (binOp .neq 25 (.agg #[.int .i64 n'.op, .int .i64 n'.a, .int .i64 n'.b, .int .i64 n'.k, .int .i64 n'.rows, .int .i64 n'.cols]) (.agg #[.int .i64 ns[m].op, .int .i64 ns[m].a, .int .i64 ns[m].b, .int .i64 ns[m].k, .int .i64 ns[m].rows, .int .i64 ns[m].cols])).run Tryd.prog w = .ok (.bool false) w := fun w => by
            have := run_neq_nd n' ns[m] w
            rwa [(sameNd_iff n' ns[m]).2 hn'] at this
          have hg : ∀ (x y : Operand) xs ys w, (eqGuard .neq 25 x y (.agg xs) (.agg ys)).run Tryd.prog w = .ok () w := fun x y xs ys w => run_eqGuard_agg w _ _ x y xs ys guardNd
          clear hadd hT' hall hn' hok
          go_wp2_with fail
          refine (known_lit _ _ HO.out).mono ?_
          rintro e w1 ⟨b, rfl, hs1, hb1⟩
          have HN1 : Hid (NdCell w1 wr.heap.size ns[m]) := NdCell.below (NdCell.new wr ns[m]) hb1
          have HW1 : Hid (Below wr.heap.size wr w1) := Bl.trans (Bl.more (Bl.refl wr) _) hb1
          have HB1 : Hid (Bld w1 (w.heap.size + 1) w.heap.size (.slice vo (ns.take m).length vc) (ns.take m) ins) := Bld.below HB.out HW1.out
          have HS1 : Hid (SaysAt w1 b ns[m].op) := hs1
          clear hs1 hb1 HB
          obtain ⟨z1, m0, m1, m2, m3, m4, m5, _⟩ := HN1.out
          have halb := al1 z1
          go_wp2
          first | (go_region_with (first | (go_at_call 25; refine (said_any ns[m].op b ns[m] _ ?_).mono ?_; (exact HS1.out.below (by repeat (first | exact Bl.refl _ | refine Bl.more ?_ _ | refine Below.drew ?_))); rintro e w3 ⟨rfl, hb3⟩; have HN3 : Hid (NdCell w3 wr.heap.size ns[m]) := NdCell.below (NdCell.below HN1.out (by repeat (first | exact Bl.refl _ | refine Bl.more ?_ _ | refine Below.drew ?_))) hb3; have HW3 : Hid (Below wr.heap.size wr w3) := Bl.trans (Bl.trans HW1.out (by repeat (first | exact Bl.refl _ | refine Bl.more ?_ _ | refine Below.drew ?_))) hb3; have HB3 : Hid (Bld w3 (w.heap.size + 1) w.heap.size (.slice vo (ns.take m).length vc) (ns.take m) ins) := Bld.below (Bld.below HB1.out (by repeat (first | exact Bl.refl _ | refine Bl.more ?_ _ | refine Below.drew ?_))) hb3; clear hb3) | (go_at_call 24; refine (add_yes (w.heap.size + 1) w.heap.size (saidOf ns[m]) vo vc (ns.take m) ins _ n' ins' ?_ ?_ ?_ HA.out).mono ?_; (exact saidOf_known HO.out); (exact HB3.out); (rw [hlen]; omega); rintro e w4 ⟨rfl, ⟨vo', vc', hbl'⟩, hk4⟩; obtain ⟨cb4, bl', off', rfl, hbs', d0, d1, d2, d3, d4, d5⟩ := bld_last hlen hbl'; have HB4 : Hid (Bld w4 (w.heap.size + 1) w.heap.size (.slice (some ⟨bl', off', none⟩) (ns.take m ++ [n']).length vc') (ns.take m ++ [n']) ins') := hbl'; clear hbl'; have HK4 : Hid (KeptBut w.heap.size (Value.slice vo (ns.take m).length vc).ownBlock w3 w4) := hk4; clear hk4; obtain ⟨_, n40, n41, n42, n43, n44, n45, _⟩ := NdCell.keptBut HN3.out HK4.out (by have := HSZ.out; omega) (fun e => by have := HRow.out _ e.symm; omega)))) | fail
          all_goals
            go_wp2
            go_roundw
            case rel =>
              have hlt1 : ns.take (m + 1) = ns.take m ++ [n'] := by rw [List.take_succ_eq_append_getElem hlt, HE.out]
              refine ⟨m + 1, by omega, by go_num, HALL.out, ⟨some ⟨bl', off', none⟩, vc', ins', ?_, HT'.out⟩, ?_⟩
              · rw [hlt1]; exact HB4.out.below (by repeat (first | exact Bl.refl _ | refine Below.drew ?_))
              · exact Bl.trans hbr HW3.out |>.trans (HK4.out.below (Nat.le_refl _) (fun k e => by have := HRow.out k e; omega) (by have := HSZ.out; have := HW3.out.size; omega))
            case measure => simp [intOf]; omega
      · have HNG : Hid (isGraphB ns = false) := not_graph hlt (nodeOk_known hkn)
        have hko : ns[m].op < 1 ∨ 8 < ns[m].op := by simp only [knownP] at hkn; omega
        have HKO : Hid (ns[m].op < 1 ∨ 8 < ns[m].op) := hko
        clear hko hkn hall hT
        go_wp2_with fail
        refine (known_no _ _ HKO.out).mono ?_
        rintro e w1 ⟨rfl, hb1⟩
        go_wp2
        go_region
        all_goals
          go_wp2
          go_ret
          exact ⟨by rw [HNG.out]; rfl, by repeat (first | exact Bl.trans (Bl.more hbr _) hb1 | refine Below.drew ?_ | refine Bl.drew ?_ _ | refine Bl.more ?_ _)⟩
    · have hml : m = ns.length := by omega
      have hg : isGraphB ns = true := is_graph g1 g2 (fun j hj => hall.out j (by omega) hj)
      have HG : Hid (isGraphB ns = true) := hg
      clear hg
      go_wp2
      go_ret
      exact ⟨by rw [HG.out]; rfl, hbr⟩
end Go.Proofs.YtanlmfcllebopaaDoorRR
