/- thriftref.Read, walked. -/
import Derived.Test.YtlcmllmphpllbaaGreatDoorRe
import Derived.Test.YtlcmllmphpllbaaGreatDoorRd
import Derived.Test.YtlcmllmphpllbaaGreatDoorWd
import Derived.Test.YtlcmllmphpllbaaGreatDoorXh
namespace Go.Proofs.YtlcmllmphpllbaaGreatDoor
open Go.RowKit

theorem trim_hit {s : ByteArray} (h : 0 < s.size) (e : s[s.size - 1] = 10) : trimS s = s.extract 0 (s.size - 1) := by
  rw [trimS, if_pos]
  rw [List.getLast?_eq_getElem?, sizeList]
  have : s.data.toList[s.size - 1]? = some s[s.size - 1] := by
    rw [List.getElem?_eq_getElem (by rw [sizeList]; omega)]
    rfl
  rw [this, e]
theorem trim_miss {s : ByteArray} (h : 0 < s.size) (e : ¬ s[s.size - 1] = 10) : trimS s = s := by
  rw [trimS, if_neg]
  rw [List.getLast?_eq_getElem?, sizeList]
  have : s.data.toList[s.size - 1]? = some s[s.size - 1] := by
    rw [List.getElem?_eq_getElem (by rw [sizeList]; omega)]
    rfl
  rw [this]
  simpa using e
theorem trim_none {s : ByteArray} (h : s.size = 0) : trimS s = s := by
  rw [trimS, if_neg]
  have : s.data.toList.length = 0 := by rw [sizeList]; exact h
  rw [List.length_eq_zero_iff.1 this]
  simp
theorem trim_size (s : ByteArray) : (trimS s).size ≤ s.size := by
  unfold trimS
  split
  · rw [ByteArray.size_extract]; omega
  · exact Nat.le_refl _
theorem row_block {w : World} {base e size n : Nat} {v : Value} {xs : List Value} (h : w.ownsRow base e size v n xs) (hn : 1 ≤ n) : ∃ g gc, v = .slice (some ⟨g, 0, none⟩) n gc ∧ base ≤ g := by
  rcases h with ⟨_, ⟨_, h0⟩ | ⟨g, gc, cur, rfl, hb, _⟩⟩
  · omega
  · exact ⟨g, gc, rfl, hb⟩
theorem cells_set (P : List Nd) (n : Nd) (R : List Nd) (r c : Int) : ((cellsOf (P ++ n :: R)).set (P.length * 6 + 4) (.int .i64 r)).set (P.length * 6 + 5) (.int .i64 c) = cellsOf (P ++ { n with rows := r, cols := c } :: R) := by
  rw [cellsOf_app, cellsOf_app, List.set_append_right _ _ (by rw [cellsOf_len]; omega), List.set_append_right _ _ (by rw [cellsOf_len]; omega), cellsOf_len]
  have e1 : P.length * 6 + 4 - P.length * 6 = 4 := by omega
  have e2 : P.length * 6 + 5 - P.length * 6 = 5 := by omega
  rw [e1, e2]
  rfl
/-- what Read answers -/
def RReadPost (s : ByteArray) (w : World) (e : Ending) (w' : World) : Prop := ∃ ao cap g a er, e = .returned (.tuple #[.slice ao (List.length g) cap, .int .i64 ((a : Nat) : Int), .int .i64 er]) ∧ Nodes w' ao g ∧ Below w.heap.size w w' ∧ ReadIs s g a er
theorem nodes_nil (w : World) (ao : Option Addr) : Nodes w ao [] := fun _ h => absurd h (Nat.not_lt_zero _)
theorem Nd.val_lit (n : Nd) : Value.agg n.vals = .agg #[.int .i64 n.op, .int .i64 n.a, .int .i64 n.b, .int .i64 n.k, .int .i64 n.rows, .int .i64 n.cols] := rfl
theorem cells_one (n : Nd) : cellsOf [n] = [.int .i64 n.op, .int .i64 n.a, .int .i64 n.b, .int .i64 n.k, .int .i64 n.rows, .int .i64 n.cols] := rfl
set_option maxHeartbeats 40000000 in
set_option maxRecDepth 100000 in
theorem rread_any (s : ByteArray) (w : World) (hmax : s.size ≤ 9223372036854775806) :
    Calls Tryz.prog 7 #[.string s] w fun e w' => RReadPost s w e w' := by
  by_cases hlong : 4000 < s.size
  · go_enter Tryz.func7, Tryz.ntmps7
    go_wp2
    go_ret3
    exact ⟨none, 0, [], 0, 1, rfl, nodes_nil _ _, Bl.refl _, .long hlong⟩
  have hs : s.size ≤ 4000 := by omega
  obtain ⟨i0, hi, hz0, hz1, hz2⟩ := info_parts infoNd
  have HI : Hid (i0.zero = some (.agg #[.int .i64 0, .int .i64 0, .int .i64 0, .int .i64 0, .int .i64 0, .int .i64 0]) ∧ i0.size = 6 ∧ i0.bytes = 48 ∧ Tryz.prog.info? 42 = some i0) := ⟨hz0, hz1, hz2, hi⟩
  clear hi hz0 hz1 hz2 hlong hmax
  have hts := trim_size s
  have HSP := fun w => rsplit_any (trimS s) 10 w (by omega)
  have hl1 : 1 ≤ (linesOf s).length := segs_ne (trimS s) 10
  have hl2 : (linesOf s).length ≤ (trimS s).size + 1 := segs_len (trimS s) 10
  have HSM : Hid (∀ i, (h : i < (linesOf s).length) → (linesOf s)[i].size ≤ s.size) := fun i h => Nat.le_trans (segs_small (trimS s) 10 h) hts
  have HBAD : Hid (∀ (m : Nat) (ns : List Nd), m < (linesOf s).length → linesF (linesOf s) m = some ns → linesF (linesOf s) (m + 1) = none → ReadIs s [] m 2) := fun m ns a b c => .bad hs m ns a b c
  have HUNL : Hid (∀ (m : Nat) (ns P : List Nd), linesF (linesOf s) (linesOf s).length = some ns → m < ns.length → shapeTo ns m = some P → shapeTo ns (m + 1) = none → ReadIs s [] m 3) := fun m ns P a b c d => .unlike hs m ns P a b c d
  have HRIG : Hid (∀ (ns P : List Nd), linesF (linesOf s) (linesOf s).length = some ns → shapeTo ns ns.length = some P → ReadIs s P 0 0) := fun ns P a b => .right hs ns P a b
  have hstep : ∀ r : ByteArray, trimS s = r → (Hid (∀ w : World, Calls Tryz.prog 12 #[.string r, .int .u8 ((10 : UInt8).toNat : Int)] w fun e w' => ∃ v, e = .returned v ∧ w'.ownsRow w.heap.size 9 1 v (linesOf s).length ((linesOf s).map Value.string) ∧ Below w.heap.size w w')) := fun r e => by
    rw [← e]; exact HSP
  clear HSP
  have h3 : s.size = 0 ∨ (∃ h : 0 < s.size, s[s.size - 1] = 10) ∨ (∃ h : 0 < s.size, ¬ s[s.size - 1] = 10) := by
    by_cases h0 : s.size = 0
    · exact .inl h0
    · have h : 0 < s.size := by omega
      by_cases e : s[s.size - 1] = 10
      · exact .inr (.inl ⟨h, e⟩)
      · exact .inr (.inr ⟨h, e⟩)
  rcases h3 with h0 | ⟨hpos, he⟩ | ⟨hpos, he⟩
  case' inl =>
    have HSP := hstep s (trim_none h0)
    have hse := is_empty h0
    clear hstep h0
    generalize hls : linesOf s = ls at *
    clear hls
    go_enter Tryz.func7, Tryz.ntmps7
    go_wp2_with fail
    refine (HSP.out _).mono ?_
  case' inr.inl =>
    have HSP := hstep _ (trim_hit hpos he)
    have hse := not_empty hpos
    clear hstep
    generalize hls : linesOf s = ls at *
    clear hls
    have hi1 : ((s.size : Int) - 1).toNat = s.size - 1 := by omega
    go_enter Tryz.func7, Tryz.ntmps7
    go_wp2_with fail
    refine (HSP.out _).mono ?_
  case' inr.inr =>
    have HSP := hstep s (trim_miss hpos he)
    have hse := not_empty hpos
    have hm' : ¬ s[s.size - 1].toNat = 10 := fun e => he (UInt8.toNat_inj.1 e)
    have hb0 : ((s[s.size - 1].toNat : Int) == 10) = false := by simp; omega
    clear hstep
    generalize hls : linesOf s = ls at *
    clear hls
    go_enter Tryz.func7, Tryz.ntmps7
    go_wp2_with fail
    refine (HSP.out _).mono ?_
  all_goals
    rintro e w1 ⟨v, rfl, ho1, hb1⟩
    obtain ⟨ao, cap, rfl, ht1⟩ := texts_of_owns ho1
    have HT1 : Hid (Texts w1 ao ls) := ht1
    have HB1 : Hid (Below w.heap.size w w1) := hb1
    have hs1 := hb1.size
    clear ho1 ht1 hb1
    go_wp2
    go_loopw [6, 7] (fun v i wr => ∃ (k : Nat) (ns : List Nd), k ≤ ls.length ∧ i = .int .i64 k ∧ Hid (linesF ls k = some ns) ∧ wr.ownsRow w1.heap.size 42 6 v ns.length (cellsOf ns) ∧ Below w1.heap.size w1 wr) (fun _ i _ => ls.length - (intOf i).toNat)
    case atStart => exact ⟨0, [], Nat.zero_le _, rfl, (rfl : linesF ls 0 = some []), World.ownsRow_nil _ _ _ _, Bl.refl _⟩
    case round =>
      obtain ⟨k, ns, hk, rfl, HF, hown, hbr⟩ := hrel
      have hsz := hbr.size
      have hnl : ns.length = k ∧ k ≤ 100 := linesF_len ls k ns HF.out
      obtain ⟨hnl, hk100⟩ := hnl
      by_cases hlt : k < ls.length
      · obtain ⟨b, off, rfl, hbs, c0⟩ := HT1.out.below hbr k hlt
        have hsm := HSM.out k hlt
        by_cases h100 : k < 100
        · go_wp2_with (first
            | (go_at_call 13; refine (rline_any ls[k] _ (by omega)).mono ?_; rintro e w2 ⟨n, ok, rfl, hb2, hy, hno⟩; have HY : Hid ((ok = true → LineYes (segs ls[k] 32) n) ∧ (ok = false → LineNo (segs ls[k] 32))) := ⟨hy, hno⟩; clear hy hno; rw [Nd.val_lit]; have hw2 := hb2.size; have hown2 := ownsRow_below hown hb2; cases ok)
            | (at_builtin; refine wpList_append_own _ rfl _ _ 32 rfl w1.heap.size 42 i0 _ 6 48 underNds HI.out.2.2.2 HI.out.1 HI.out.2.1 HI.out.2.2.1 rfl (by decide) _ _ _ rfl ((hown2.alloc _).alloc _) ⟨w2.heap.size + 1, 0, none⟩ 1 1 [.int .i64 n.op, .int .i64 n.a, .int .i64 n.b, .int .i64 n.k, .int .i64 n.rows, .int .i64 n.cols] rfl rfl ?c1 ?c2 ?c3 ?c4 ?c5 ?_)
            | fail)
          · go_ret3
            exact ⟨none, 0, [], k, 2, rfl, nodes_nil _ _, Bl.more (HB1.out.trans ((Bl.trans hbr hb2).mono hs1)) _, HBAD.out k ns hlt HF.out (linesF_stop HF.out hlt (.inl (HY.out.2 (by first | rfl | trivial))))⟩
          case c1 =>
            intro j u hj
            match j, hj with
            | 0, hj => simp at hj; subst hj; simp [Addr.add, go_sem]
            | 1, hj => simp at hj; subst hj; simp [Addr.add, go_sem]
            | 2, hj => simp at hj; subst hj; simp [Addr.add, go_sem]
            | 3, hj => simp at hj; subst hj; simp [Addr.add, go_sem]
            | 4, hj => simp at hj; subst hj; simp [Addr.add, go_sem]
            | 5, hj => simp at hj; subst hj; simp [Addr.add, go_sem]
            | j + 6, hj => simp at hj
          case c2 => intro u hu; simp at hu; rcases hu with rfl | rfl | rfl | rfl | rfl | rfl <;> rfl
          case c3 => unfold maxLen; omega
          case c4 => omega
          case c5 => simp; omega
          intro v' w3 hown' hgrow _
          have hb3 : Below w1.heap.size w1 w3 := ((((hbr.trans (hb2.mono hsz)).alloc (by omega) _).alloc (by simp; omega) _).grown hgrow (by simp; omega) (fun j e => (hown.lt j e).1))
          have HO : Hid (w3.ownsRow w1.heap.size 42 6 v' (ns ++ [n]).length (cellsOf (ns ++ [n]))) := by
            show w3.ownsRow _ _ _ _ _ _
            rw [cellsOf_app, cells_one]
            have e : (ns ++ [n]).length = ns.length + 1 := by simp
            rw [e, hnl]
            exact hown'
          have HF3 : Hid (linesF ls (k + 1) = some (ns ++ [n])) := linesF_step HF.out hlt (HY.out.1 (by first | rfl | trivial)) (by omega)
          clear hgrow hown hown' hown2
          go_wp2
          exact ⟨⟨k + 1, ns ++ [n], by omega, by go_num, HF3, HO.out, hb3⟩, by simp [intOf]; omega⟩
        · go_wp2_with (first
            | (go_at_call 13; refine (rline_any ls[k] _ (by omega)).mono ?_; rintro e w2 ⟨n, ok, rfl, hb2, hy, hno⟩; have HY : Hid ((ok = true → LineYes (segs ls[k] 32) n) ∧ (ok = false → LineNo (segs ls[k] 32))) := ⟨hy, hno⟩; clear hy hno; rw [Nd.val_lit]; have hw2 := hb2.size; have hown2 := ownsRow_below hown hb2; cases ok)
            | fail)
          all_goals
            go_ret3
            exact ⟨none, 0, [], k, 2, rfl, nodes_nil _ _, Bl.more (HB1.out.trans ((Bl.trans hbr hb2).mono hs1)) _, HBAD.out k ns hlt HF.out (linesF_stop HF.out hlt (.inr (by omega)))⟩
      · have hke : k = ls.length := by omega
        rw [hke] at HF
        clear hlt hk
        have hn1 : 1 ≤ ns.length := by omega
        rename World => wq
        obtain ⟨g, gc, rfl, hgb⟩ := row_block hown hn1
        subst hke
        have hn100 : ns.length ≤ 100 := by omega
        have HNL : Hid (ns.length = ls.length) := hnl
        clear hnl
        go_wp2
        go_loopw [10] (fun v wr => ∃ (m : Nat) (P : List Nd), m ≤ ns.length ∧ v = .int .i64 m ∧ Hid (shapeTo ns m = some P) ∧ wr.ownsRow w1.heap.size 42 6 (.slice (some ⟨g, 0, none⟩) ns.length gc) ns.length (cellsOf (P ++ ns.drop m)) ∧ Below w1.heap.size w1 wr) (fun v _ => ns.length - (intOf v).toNat)
        case atStart => exact ⟨0, [], Nat.zero_le _, rfl, (rfl : shapeTo ns 0 = some []), hown, hbr⟩
        case round =>
          obtain ⟨m, P, hm, rfl, HS, hrow, hb5⟩ := hrel
          have hPl : P.length = m := shapeTo_len ns m P HS.out
          by_cases hlt : m < ns.length
          · have HR : Hid (ns.drop m = ns[m] :: ns.drop (m + 1)) := List.drop_eq_getElem_cons hlt
            have HL : Hid ((P ++ ns.drop m).length = ns.length) := by
              show _ = _
              rw [List.length_append, List.length_drop, hPl]; omega
            have HROW : Hid (wr.ownsRow w1.heap.size 42 6 (.slice (some ⟨g, 0, none⟩) ns.length gc) ns.length (cellsOf (P ++ ns.drop m))) := hrow
            have HNS : Hid (Nodes wr (some ⟨g, 0, none⟩) (P ++ ns.drop m)) := by
              have h := hrow
              rw [← HL.out] at h
              obtain ⟨ao', cap', e, hN, _⟩ := nodes_of_owns h
              simp only [Value.slice.injEq] at e
              rw [e.1]
              exact hN
            have HP : Hid (placedZ (P ++ ns.drop m) m ns[m] = placedZ (P ++ [ns[m]]) P.length ns[m]) := by
              show _ = _
              have h := placed_ahead P (ns.drop m) [ns[m]] ns[m]
              rw [hPl] at h ⊢
              exact h
            have HPL : Hid (∀ wx : World, Nodes wx (some ⟨g, 0, none⟩) (P ++ ns.drop m) → Calls Tryz.prog 14 #[.slice (some ⟨g, 0, none⟩) ns.length gc, .int .i64 m] wx fun e w' => e = .returned (trip (placedZ (P ++ [ns[m]]) P.length ns[m])) ∧ Below wx.heap.size wx w') := fun wx hx => by
              have hi : m < (P ++ ns.drop m).length := by rw [HL.out]; exact hlt
              have h := placed_any (P ++ ns.drop m) m hi (some ⟨g, 0, none⟩) gc wx hx (by rw [HL.out]; omega)
              have e : (P ++ ns.drop m)[m] = ns[m] := by
                rw [List.getElem_append_right (by omega)]
                simp [hPl]
              rw [e, HP.out, HL.out] at h
              refine h.mono ?_
              rintro e w' ⟨r, c, ok, hz, rfl, hb⟩
              exact ⟨by rw [hz.out]; rfl, hb⟩
            clear hrow HP
            obtain ⟨r, c, ok, hpz⟩ : ∃ r c ok, placedZ (P ++ [ns[m]]) P.length ns[m] = (r, c, ok) := ⟨_, _, _, rfl⟩
            rw [hpz] at HPL
            simp only [trip] at HPL
            have HST : Hid (shapeStep P ns[m] = if ok then some { ns[m] with rows := r, cols := c } else none) := by
              show _ = _
              rw [shapeStep, hpz]
            clear hpz
            have hcell : ∀ (wx : World), Below wr.heap.size wr wx → ∀ j, j < ns.length * 6 → ∃ u, wx.cell? ⟨g, j, none⟩ = some u := fun wx hx j hj => by
              have h := ownsRow_below HROW.out hx
              rw [h.cellAt j (by omega)]
              have hl : j < (cellsOf (P ++ ns.drop m)).length := by rw [cellsOf_len, HL.out]; exact hj
              exact ⟨_, List.getElem?_eq_getElem hl⟩
            have HCE : Hid (∀ (wx : World), Below wr.heap.size wr wx → ∀ j, j < ns.length * 6 → ∃ u, wx.cell? ⟨g, j, none⟩ = some u) := hcell
            clear hcell
            have HPm : Hid (P.length = m) := hPl
            clear hPl
            cases ok
            · go_wp2_with (first
                | (go_at_call 14; refine (HPL.out _ HNS.out).mono ?_; rintro e w2 ⟨rfl, hb2⟩)
                | fail)
              go_ret3
              exact ⟨none, 0, [], m, 3, rfl, nodes_nil _ _, HB1.out.trans ((hb5.trans (hb2.mono hb5.size)).mono hs1), HUNL.out m ns P HF.out hlt HS.out (shapeTo_stop HS.out hlt HST.out)⟩
            · go_wp2_with (first
                | (go_at_call 14; refine (HPL.out _ HNS.out).mono ?_; rintro e w2 ⟨rfl, hb2⟩; obtain ⟨u4, x4⟩ := HCE.out w2 hb2 (m * 6 + 4) (by omega); obtain ⟨u5, x5⟩ := HCE.out w2 hb2 (m * 6 + 5) (by omega); have hfz := (ownsRow_below HROW.out hb2).frozenAt)
                | fail)
              have HROW2 : Hid (((w2.setCell ⟨g, m * 6 + 4, none⟩ (.int .i64 r)).setCell ⟨g, m * 6 + 5, none⟩ (.int .i64 c)).ownsRow w1.heap.size 42 6 (.slice (some ⟨g, 0, none⟩) ns.length gc) ns.length (cellsOf (P ++ [{ ns[m] with rows := r, cols := c }] ++ ns.drop (m + 1)))) := by
                have h0 := ownsRow_below HROW.out hb2
                rw [HR.out] at h0
                have h := (World.ownsRow.stored (World.ownsRow.stored h0 (m * 6 + 4) (.int .i64 r)).1 (m * 6 + 5) (.int .i64 c)).1
                have e := cells_set P ns[m] (ns.drop (m + 1)) r c
                rw [HPm.out] at e
                rw [e] at h
                rw [List.append_assoc]
                exact h
              exact ⟨⟨m + 1, P ++ [{ ns[m] with rows := r, cols := c }], by omega, by go_num, shapeTo_step HS.out hlt (by rw [HST.out]; simp), HROW2.out, ((hb5.trans (hb2.mono hb5.size)).setCell hgb _).setCell hgb _⟩, by simp [intOf]; omega⟩
          · have hme : m = ns.length := by omega
            subst hme
            have hPR : P ++ ns.drop ns.length = P := by simp
            rw [hPR] at hrow
            obtain ⟨ao', cap', e, hN, _⟩ := nodes_of_owns (ns := P) (by rw [hPl]; exact hrow)
            simp only [Value.slice.injEq] at e
            have HN : Hid (Nodes wr (some ⟨g, 0, none⟩) P) := by rw [e.1]; exact hN
            clear hN e hrow hPR
            go_wp2
            go_ret3
            exact ⟨some ⟨g, 0, none⟩, gc, P, 0, 0, by rw [hPl]; rfl, HN.out, HB1.out.trans (hb5.mono hs1), HRIG.out ns P HF.out HS.out⟩
end Go.Proofs.YtlcmllmphpllbaaGreatDoor
