/- thriftref.Cost, walked. -/
import Derived.Test.YtanlmfcllebopaaDoorRRWj
namespace Go.Proofs.YtanlmfcllebopaaDoorRR
open Go.RowKit

set_option maxHeartbeats 400000 in
theorem rcost_no (ns : List Nd) (ao : Option Addr) (cap : Nat) (w : World) (hn : Nodes w ao ns) (hs : ns.length * 48 ≤ 140737488351232) (hg : isGraphB ns = false) :
    Calls Tryd.prog 9 #[.slice ao ns.length cap] w fun e w' => e = .returned (.tuple #[.int .i64 0, .int .i64 4]) ∧ Below w.heap.size w w' := by
  go_enter Tryd.func9, Tryd.ntmps9
  go_wp2_with (go_at_call 14; refine (isGraph_any ns _ _ _ hn hs).mono ?_; rintro e w1 ⟨rfl, hb1⟩)
  go_ret2
  exact ⟨rfl, hb1⟩

theorem infoInt : (Tryd.prog.info? 3).map (fun i => (i.zero, i.size, i.bytes)) = some (some (.int .i64 0), 1, 8) := by kernel_rfl
theorem underInts : Tryd.prog.underlying 45 = some (.slice 3) := by kernel_rfl
theorem ints_view {w : World} {base : Nat} {v : Value} {m : Nat} {l : List Int} (hl : l.length = m) (h : w.ownsRow base 3 1 v m (l.map (Value.int .i64))) :
    ∃ ao cap, v = .slice ao m cap ∧ ∀ j, j < m → ∃ g, ao = some ⟨g, 0, none⟩ ∧ g < w.heap.size ∧ w.cell? ⟨g, j, none⟩ = some (.int .i64 (l.getD j 0)) := by
  rcases h with ⟨h0, ⟨rfl, hn⟩ | ⟨g, cap, cur, rfl, hb, hh, hle, hm, hcs, hcur⟩⟩
  · exact ⟨none, 0, by rw [hn], fun j hj => absurd hj (by omega)⟩
  · have hw : w.ownsRow base 3 1 (.slice (some ⟨g, 0, none⟩) m cap) m (l.map (Value.int .i64)) := ⟨h0, .inr ⟨g, cap, cur, rfl, hb, hh, hle, hm, hcs, hcur⟩⟩
    have hg : g < w.heap.size := by
      by_cases hlt : g < w.heap.size
      · exact hlt
      · rw [Array.getElem?_eq_none (by omega)] at hh; cases hh
    refine ⟨some ⟨g, 0, none⟩, cap, rfl, fun j hj => ⟨g, rfl, hg, ?_⟩⟩
    rw [hw.cellAt j (by omega)]
    simp [List.getD, List.getElem?_map, List.getElem?_eq_getElem (show j < l.length by omega)]
theorem part_cases (op : Int) : partsZ op = 0 ∨ partsZ op = 1 ∨ partsZ op = 2 := by
  unfold partsZ; repeat' split
  all_goals simp

set_option maxHeartbeats 4000000 in
theorem rcost_yes (ns : List Nd) (ao : Option Addr) (cap : Nat) (w : World) (hn : Nodes w ao ns) (hs : ns.length * 48 ≤ 140737488351232) (hg : isGraphB ns = true) :
    Calls Tryd.prog 9 #[.slice ao ns.length cap] w fun e w' => e = .returned (.tuple #[.int .i64 (costZ ns), .int .i64 0]) ∧ Below w.heap.size w w' := by
  have h100 := len100 hg
  obtain ⟨i0, hi, hz0, hz1, hz2⟩ := info_parts infoInt
  have HI : Hid (i0.zero = some (.int .i64 0) ∧ i0.size = 1 ∧ i0.bytes = 8 ∧ Tryd.prog.info? 3 = some i0) := ⟨hz0, hz1, hz2, hi⟩
  clear hi hz0 hz1 hz2
  go_enter Tryd.func9, Tryd.ntmps9
  go_wp2_with (first | (go_at_call 14; refine (isGraph_any ns _ _ _ hn hs).mono ?_; rintro e w1 ⟨rfl, hb1⟩))
  have HG : Hid (isGraphB ns = true) := hg
  clear hg
  go_loopw [5, 6] (fun v j wr => ∃ m : Nat, m ≤ ns.length ∧ j = .int .i64 m ∧ wr.ownsRow w1.heap.size 3 1 v m ((costs ns m).map (Value.int .i64)) ∧ Below w1.heap.size w1 wr) (fun _ j _ => ns.length - (intOf j).toNat)
  case atStart => exact ⟨0, Nat.zero_le _, rfl, World.ownsRow_nil _ _ _ _, Bl.refl _⟩
  case round =>
    obtain ⟨m, hm, rfl, hown, hbr⟩ := hrel
    obtain ⟨lo, lc, rfl, hview⟩ := ints_view (costs_len ns m) hown
    have hsz := hbr.size
    by_cases hlt : m < ns.length
    · have hN := hn.below (Bl.trans hb1 hbr)
      obtain ⟨bl, off, rfl, hbs, c0, c1, c2, c3, c4, c5⟩ := hN m hlt
      have hok := ok_at HG.out m hlt
      obtain ⟨pa, pb, p0, _⟩ := ok_parts hok
      obtain ⟨i1, i2, i3, i4⟩ := inner_bd HG.out m hlt
      obtain ⟨⟨s1, s2⟩, s3, s4⟩ := sides HG.out m hlt
      have hcb := costs_bd ns HG.out m hm
      have HS : Hid (costs ns (m + 1) = costs ns m ++ [costStep ns (costs ns m) ns[m]]) := by rw [← nth_at ns m hlt]; rfl
      have HST : Hid (costStep ns (costs ns m) ns[m] = cappedZ (ownZ ns[m].op ns[m].rows ns[m].cols (nth ns ns[m].a).cols + (if 0 < partsZ ns[m].op then (costs ns m).getD ns[m].a.toNat 0 else 0) + (if 1 < partsZ ns[m].op then (costs ns m).getD ns[m].b.toNat 0 else 0))) := rfl
      have hal := al1 hbs
      have hob := own_bd ns[m].op ns[m].rows ns[m].cols (nth ns ns[m].a).cols ⟨s1, s2⟩ ⟨s3, s4⟩ ⟨i3, i4⟩
      generalize ns[m].op = op at *
      generalize ns[m].a = na at *
      generalize ns[m].b = nb at *
      generalize ns[m].k = nk at *
      generalize ns[m].rows = nr at *
      generalize ns[m].cols = nc at *
      clear hok
      obtain ⟨ka, rfl⟩ := Int.eq_ofNat_of_zero_le i1
      have hka : ka < ns.length := by omega
      obtain ⟨bl', off', hq, hbs', d0, d1, d2, d3, d4, d5⟩ := hN ka hka
      simp only [Option.some.injEq, Addr.mk.injEq, and_true] at hq
      obtain ⟨rfl, rfl⟩ := hq
      rw [nth_at ns ka hka] at i3 i4 hob HST
      obtain ⟨_, _, _, o1, o2⟩ := hob
      generalize hIN : ns[ka].cols = inn at d5 i3 i4 o1 o2 HST
      clear hIN
      have HO : Hid (ownZ op nr nc inn = ownZ op nr nc inn) := rfl
      rcases part_cases op with hp | hp | hp
      · have HP : Hid (partsZ op = 0) := hp
        have hv : costStep ns (costs ns m) ns[m] = cappedZ (ownZ op nr nc inn) := by rw [HST.out, if_neg (by omega), if_neg (by omega)]; simp
        have HV : Hid (costStep ns (costs ns m) ns[m] = cappedZ (ownZ op nr nc inn)) := hv
        clear hv
        clear pa pb p0 hview hcb HST
        go_wp2
        go_quiet ((go_at_call 21; exact Calls.quiet_of_same (own_any _ _ _ _ _ ⟨s1, s2⟩ ⟨s3, s4⟩ ⟨i3, i4⟩)))
        go_wp2_with (first | (go_at_call 18; refine (parts_any _ _).mono ?_; rintro e w' ⟨rfl, rfl⟩) | (go_at_call 22; refine (capped_any _ _).mono ?_; rintro e w' ⟨rfl, rfl⟩) | (at_builtin; (refine wpList_append_own _ rfl (.tmp 58) (.tmp 61) 45 rfl w1.heap.size 3 i0 _ 1 8 underInts HI.out.2.2.2 HI.out.1 HI.out.2.1 HI.out.2.2.1 rfl (by decide) _ _ _ rfl (by exact (hown.alloc _).alloc _) ⟨wr.heap.size + 1, 0, none⟩ 1 1 [.int .i64 (cappedZ (ownZ op nr nc inn))] rfl rfl ?c1 ?c2 ?c3 ?c4 ?c5 ?_)))
        case c1 =>
          intro j u hj
          match j, hj with
          | 0, hj => simp at hj; subst hj; simp [Addr.add, go_sem]
          | j + 1, hj => simp at hj
        case c2 => intro u hu; simp at hu; subst hu; rfl
        case c3 => unfold maxLen; omega
        case c4 => omega
        case c5 => simp; omega
        intro v' w2 hown' hgrow _
        have hT : (costs ns (m + 1)).map (Value.int .i64) = (costs ns m).map (Value.int .i64) ++ [.int .i64 (costStep ns (costs ns m) ns[m])] := by rw [HS.out]; simp
        rw [← HV.out, ← hT] at hown'
        clear hT HV HS
        have hb2 : Below w1.heap.size w1 w2 := Below.grown (Bl.drew (Bl.more (Bl.more hbr _) _) _) hgrow (by simp; omega) (fun j e => (hown.lt j e).1)
        clear hgrow hown c0 c1 c2 c3 c4 c5 d0 d1 d2 d3 d4 d5
        go_wp2
        go_roundw
        case rel => exact ⟨m + 1, by omega, by go_num, hown', hb2⟩
        case measure => simp [intOf]; omega
      · have HP : Hid (partsZ op = 1) := hp
        have hkam : ka < m := by have := pa (by omega); omega
        obtain ⟨g, rfl, hgs, e0⟩ := hview ka hkam
        obtain ⟨xa1, xa2⟩ := hcb ka hkam
        have HXA : Hid ((costs ns m).getD ka 0 = (costs ns m).getD ka 0) := rfl
        generalize hxa : (costs ns m).getD ka 0 = xa at e0 xa1 xa2
        have HX : Hid ((costs ns m).getD ka 0 = xa) := hxa
        clear hxa
        have halg := al1 hgs
        have hv : costStep ns (costs ns m) ns[m] = cappedZ (ownZ op nr nc inn + xa) := by rw [HST.out, if_pos (by omega), if_neg (by omega), Int.toNat_natCast, HX.out]; simp
        have HV : Hid (costStep ns (costs ns m) ns[m] = cappedZ (ownZ op nr nc inn + xa)) := hv
        clear hv
        clear pa pb p0 hview hcb HST
        go_wp2
        go_quiet ((go_at_call 21; exact Calls.quiet_of_same (own_any _ _ _ _ _ ⟨s1, s2⟩ ⟨s3, s4⟩ ⟨i3, i4⟩)))
        go_wp2_with (first | (go_at_call 18; refine (parts_any _ _).mono ?_; rintro e w' ⟨rfl, rfl⟩) | (go_at_call 22; refine (capped_any _ _).mono ?_; rintro e w' ⟨rfl, rfl⟩) | (at_builtin; (refine wpList_append_own _ rfl (.tmp 58) (.tmp 61) 45 rfl w1.heap.size 3 i0 _ 1 8 underInts HI.out.2.2.2 HI.out.1 HI.out.2.1 HI.out.2.2.1 rfl (by decide) _ _ _ rfl (by exact (hown.alloc _).alloc _) ⟨wr.heap.size + 1, 0, none⟩ 1 1 [.int .i64 (cappedZ (ownZ op nr nc inn + xa))] rfl rfl ?c1 ?c2 ?c3 ?c4 ?c5 ?_)))
        case c1 =>
          intro j u hj
          match j, hj with
          | 0, hj => simp at hj; subst hj; simp [Addr.add, go_sem]
          | j + 1, hj => simp at hj
        case c2 => intro u hu; simp at hu; subst hu; rfl
        case c3 => unfold maxLen; omega
        case c4 => omega
        case c5 => simp; omega
        intro v' w2 hown' hgrow _
        have hT : (costs ns (m + 1)).map (Value.int .i64) = (costs ns m).map (Value.int .i64) ++ [.int .i64 (costStep ns (costs ns m) ns[m])] := by rw [HS.out]; simp
        rw [← HV.out, ← hT] at hown'
        clear hT HV HS
        have hb2 : Below w1.heap.size w1 w2 := Below.grown (Bl.drew (Bl.more (Bl.more hbr _) _) _) hgrow (by simp; omega) (fun j e => (hown.lt j e).1)
        clear hgrow hown c0 c1 c2 c3 c4 c5 d0 d1 d2 d3 d4 d5
        go_wp2
        go_roundw
        case rel => exact ⟨m + 1, by omega, by go_num, hown', hb2⟩
        case measure => simp [intOf]; omega
      · have HP : Hid (partsZ op = 2) := hp
        have hkam : ka < m := by have := pa (by omega); omega
        obtain ⟨g, rfl, hgs, e0⟩ := hview ka hkam
        obtain ⟨xa1, xa2⟩ := hcb ka hkam
        have HXA : Hid ((costs ns m).getD ka 0 = (costs ns m).getD ka 0) := rfl
        generalize hxa : (costs ns m).getD ka 0 = xa at e0 xa1 xa2
        have HX : Hid ((costs ns m).getD ka 0 = xa) := hxa
        clear hxa
        have halg := al1 hgs
        obtain ⟨ib1, ib2⟩ := pb (by omega)
        obtain ⟨kb, rfl⟩ := Int.eq_ofNat_of_zero_le ib1
        have hkbm : kb < m := by omega
        obtain ⟨g', hgg, hgs', f0⟩ := hview kb hkbm
        simp only [Option.some.injEq, Addr.mk.injEq, and_true] at hgg
        subst hgg
        obtain ⟨xb1, xb2⟩ := hcb kb hkbm
        generalize hxb : (costs ns m).getD kb 0 = xb at f0 xb1 xb2
        have HXB : Hid ((costs ns m).getD kb 0 = xb) := hxb
        clear hxb
        have hv : costStep ns (costs ns m) ns[m] = cappedZ (ownZ op nr nc inn + xa + xb) := by rw [HST.out, if_pos (by omega), if_pos (by omega), Int.toNat_natCast, Int.toNat_natCast, HX.out, HXB.out]
        have HV : Hid (costStep ns (costs ns m) ns[m] = cappedZ (ownZ op nr nc inn + xa + xb)) := hv
        clear hv
        clear pa pb p0 hview hcb HST
        go_wp2
        go_quiet ((go_at_call 21; exact Calls.quiet_of_same (own_any _ _ _ _ _ ⟨s1, s2⟩ ⟨s3, s4⟩ ⟨i3, i4⟩)))
        go_wp2_with (first | (go_at_call 18; refine (parts_any _ _).mono ?_; rintro e w' ⟨rfl, rfl⟩) | (go_at_call 22; refine (capped_any _ _).mono ?_; rintro e w' ⟨rfl, rfl⟩) | (at_builtin; (refine wpList_append_own _ rfl (.tmp 58) (.tmp 61) 45 rfl w1.heap.size 3 i0 _ 1 8 underInts HI.out.2.2.2 HI.out.1 HI.out.2.1 HI.out.2.2.1 rfl (by decide) _ _ _ rfl (by exact (hown.alloc _).alloc _) ⟨wr.heap.size + 1, 0, none⟩ 1 1 [.int .i64 (cappedZ (ownZ op nr nc inn + xa + xb))] rfl rfl ?c1 ?c2 ?c3 ?c4 ?c5 ?_)))
        case c1 =>
          intro j u hj
          match j, hj with
          | 0, hj => simp at hj; subst hj; simp [Addr.add, go_sem]
          | j + 1, hj => simp at hj
        case c2 => intro u hu; simp at hu; subst hu; rfl
        case c3 => unfold maxLen; omega
        case c4 => omega
        case c5 => simp; omega
        intro v' w2 hown' hgrow _
        have hT : (costs ns (m + 1)).map (Value.int .i64) = (costs ns m).map (Value.int .i64) ++ [.int .i64 (costStep ns (costs ns m) ns[m])] := by rw [HS.out]; simp
        rw [← HV.out, ← hT] at hown'
        clear hT HV HS
        have hb2 : Below w1.heap.size w1 w2 := Below.grown (Bl.drew (Bl.more (Bl.more hbr _) _) _) hgrow (by simp; omega) (fun j e => (hown.lt j e).1)
        clear hgrow hown c0 c1 c2 c3 c4 c5 d0 d1 d2 d3 d4 d5
        go_wp2
        go_roundw
        case rel => exact ⟨m + 1, by omega, by go_num, hown', hb2⟩
        case measure => simp [intOf]; omega
    · have hml : m = ns.length := by omega
      subst hml
      obtain ⟨g, rfl, hgs, e0⟩ := hview (ns.length - 1) (by omega)
      have hpos : ns.length - 1 < ns.length := by omega
      have e1 : (ns.length : Int) - 1 = ((ns.length - 1 : Nat) : Int) := by omega
      have hz : (costs ns ns.length).getD (ns.length - 1) 0 = costZ ns := rfl
      rw [hz] at e0
      clear hz hview hown
      obtain ⟨q, hq⟩ : ∃ q, ns.length = q + 1 := ⟨ns.length - 1, by omega⟩
      have HM : Hid (¬ ns.length < ns.length) := hlt
      clear hlt
      have HE : Hid ((ns.length : Int) - 1 = ((ns.length - 1 : Nat) : Int)) := e1
      clear e1
      have HQ : Hid (ns.length = q + 1) := hq
      clear hq
      go_wp2

      go_ret2
      exact ⟨rfl, Bl.trans hb1 hbr⟩
end Go.Proofs.YtanlmfcllebopaaDoorRR
