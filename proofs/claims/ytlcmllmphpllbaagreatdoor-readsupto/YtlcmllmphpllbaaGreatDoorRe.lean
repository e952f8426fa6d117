/- thriftref.line, walked. -/
import Derived.Test.YtlcmllmphpllbaaGreatDoorRd
import Derived.Test.YtlcmllmphpllbaaGreatDoorWh
import Derived.Test.YtlcmllmphpllbaaGreatDoorXe
namespace Go.Proofs.YtlcmllmphpllbaaGreatDoor
open Go.RowKit

theorem liInfo : (Tryz.prog.info? 3).map (fun i => (i.zero, i.size, i.bytes)) = some (some (.int .i64 0), 1, 8) := by kernel_rfl
theorem liUnder : Tryz.prog.underlying 25 = some (.slice 3) := by kernel_rfl
/-- six noughts in a block -/
structure Zero6 (w : World) (b : Nat) : Prop where
  lt : b < w.heap.size
  c0 : w.cell? ⟨b, 0, none⟩ = some (.int .i64 0)
  c1 : w.cell? ⟨b, 1, none⟩ = some (.int .i64 0)
  c2 : w.cell? ⟨b, 2, none⟩ = some (.int .i64 0)
  c3 : w.cell? ⟨b, 3, none⟩ = some (.int .i64 0)
  c4 : w.cell? ⟨b, 4, none⟩ = some (.int .i64 0)
  c5 : w.cell? ⟨b, 5, none⟩ = some (.int .i64 0)
  fz : ∀ i, w.frozen? ⟨b, i, none⟩ = false
theorem Zero6.below {w w' : World} {b B : Nat} (h : Zero6 w b) (hb : Below B w w') (hB : b < B) : Zero6 w' b :=
  ⟨Nat.lt_of_lt_of_le h.lt hb.size, (hb.cell (by exact hB)).trans h.c0, (hb.cell (by exact hB)).trans h.c1, (hb.cell (by exact hB)).trans h.c2, (hb.cell (by exact hB)).trans h.c3, (hb.cell (by exact hB)).trans h.c4, (hb.cell (by exact hB)).trans h.c5, fun i => (hb.frozen (by exact hB)).trans (h.fz i)⟩
/-- numbers in memory -/
def IntAt (w : World) (ao : Option Addr) (i : Nat) (x : Int) : Prop := ∃ b, ao = some ⟨b, 0, none⟩ ∧ b < w.heap.size ∧ w.cell? ⟨b, i, none⟩ = some (.int .i64 x)
theorem ints_of' {w : World} {base : Nat} {v : Value} {l : List Int} (h : w.ownsRow base 3 1 v l.length (l.map (Value.int .i64))) : ∃ ao cap, v = .slice ao l.length cap ∧ ∀ i, (h : i < l.length) → IntAt w ao i l[i] := by
  rcases h with ⟨h0, ⟨rfl, hn⟩ | ⟨g, cap, cur, rfl, hb, hh, hle, hm, hcs, hcur⟩⟩
  · exact ⟨none, 0, by rw [hn], fun i hi => absurd hi (by omega)⟩
  · have hw : w.ownsRow base 3 1 (.slice (some ⟨g, 0, none⟩) l.length cap) l.length (l.map (Value.int .i64)) := ⟨h0, .inr ⟨g, cap, cur, rfl, hb, hh, hle, hm, hcs, hcur⟩⟩
    have hg : g < w.heap.size := by
      by_cases hlt : g < w.heap.size
      · exact hlt
      · rw [Array.getElem?_eq_none (by omega)] at hh; cases hh
    refine ⟨some ⟨g, 0, none⟩, cap, rfl, fun i hi => ⟨g, rfl, hg, ?_⟩⟩
    rw [hw.cellAt _ (by omega)]
    simp [hi]
theorem IntAt.below {w w' : World} {ao : Option Addr} {i : Nat} {x : Int} (h : IntAt w ao i x) (hb : Below w.heap.size w w') : IntAt w' ao i x := by
  obtain ⟨b, e, hs, c⟩ := h
  exact ⟨b, e, Nat.lt_of_lt_of_le hs hb.size, (hb.cell (by exact hs)).trans c⟩
theorem NdCell.keepsDrew {w : World} {b : Nat} {n : Nd} (h : NdCell w b n) (k : Nat) : NdCell (w.drewN k) b n := h.below (Bl.drew (Bl.refl _) _)
theorem NdCell.setOp {w : World} {b : Nat} {n : Nd} (h : NdCell w b n) (x : Int) : NdCell (w.setCell ⟨b, 0, none⟩ (.int .i64 x)) b { n with op := x } := by
  obtain ⟨hs, c0, c1, c2, c3, c4, c5, hf⟩ := h
  refine ⟨by simpa using hs, ?_, ?_, ?_, ?_, ?_, ?_, fun j => ?_⟩ <;> simp [go_sem, c0, c1, c2, c3, c4, c5, hf]
theorem len1 {l : List Int} (h : l.length = 1) : ∃ x, l = [x] := List.length_eq_one_iff.1 h
theorem len2 {l : List Int} (h : l.length = 2) : ∃ x y, l = [x, y] := by
  match l, h with
  | [x, y], _ => exact ⟨x, y, rfl⟩
theorem len3 {l : List Int} (h : l.length = 3) : ∃ x y z, l = [x, y, z] := by
  match l, h with
  | [x, y, z], _ => exact ⟨x, y, z, rfl⟩
/-- what line answers -/
def LinePost (ws : List ByteArray) (w : World) (e : Ending) (w' : World) : Prop := ∃ (n : Nd) (ok : Bool), e = .returned (.tuple #[.agg n.vals, .bool ok]) ∧ Below w.heap.size w w' ∧ (ok = true → LineYes ws n) ∧ (ok = false → LineNo ws)
set_option maxHeartbeats 40000000 in
set_option maxRecDepth 100000 in
theorem rline_any (s : ByteArray) (w : World) (hs : s.size ≤ 5000) :
    Calls Tryz.prog 13 #[.string s] w fun e w' => LinePost (segs s 32) w e w' := by
  obtain ⟨i0, hi, hz0, hz1, hz2⟩ := sinfo_parts liInfo
  have HI : Hid (i0.zero = some (.int .i64 0) ∧ i0.size = 1 ∧ i0.bytes = 8 ∧ Tryz.prog.info? 3 = some i0) := ⟨hz0, hz1, hz2, hi⟩
  clear hi hz0 hz1 hz2
  have hl1 := segs_ne s 32
  have hl2 := segs_len s 32
  have HSM : Hid (∀ i, (h : i < (segs s 32).length) → (segs s 32)[i].size ≤ s.size) := fun i h => segs_small s 32 h
  have HSP := fun w => rsplit_any s 32 w hs
  generalize hws : segs s 32 = ws at *
  clear hws
  have HS : Hid (∀ w : World, Calls Tryz.prog 12 #[.string s, .int .u8 ((32 : UInt8).toNat : Int)] w fun e w' => ∃ v, e = .returned v ∧ w'.ownsRow w.heap.size 9 1 v ws.length (ws.map Value.string) ∧ Below w.heap.size w w') := HSP
  clear HSP
  go_enter Tryz.func13, Tryz.ntmps13
  go_wp2_with fail
  refine (HS.out _).mono ?_
  rintro e w1 ⟨v, rfl, ho1, hb1⟩
  obtain ⟨ao, cap, rfl, ht1⟩ := texts_of_owns ho1
  have HT1 : Hid (Texts w1 ao ws) := ht1
  have hs1 : w.heap.size < w1.heap.size := by have := hb1.size; simp at this; omega
  have HZ1 : Hid (Zero6 w1 w.heap.size) := Zero6.below ⟨by simp, by simp [go_sem], by simp [go_sem], by simp [go_sem], by simp [go_sem], by simp [go_sem], by simp [go_sem], by simp [go_sem]⟩ hb1 (by simp)
  have HB1 : Hid (Below w.heap.size w w1) := Bl.trans (Bl.more (Bl.refl _) _) hb1
  clear ho1 ht1 hb1
  go_wp2
  go_loopw [5, 6] (fun v i wr => ∃ (k : Nat) (l : List Int), 1 ≤ k ∧ k ≤ ws.length ∧ i = .int .i64 k ∧ l.length = k - 1 ∧ Hid (NumsAre (ws.tail.take (k - 1)) l) ∧ wr.ownsRow w1.heap.size 3 1 v l.length (l.map (Value.int .i64)) ∧ Below w1.heap.size w1 wr) (fun _ i _ => ws.length - (intOf i).toNat)
  case atStart => exact ⟨1, [], Nat.le_refl _, hl1, rfl, rfl, (by have := NumsAre.nil; simpa using this : NumsAre (ws.tail.take (1 - 1)) []), World.ownsRow_nil _ _ _ _, Bl.refl _⟩
  case round =>
    obtain ⟨k, l, hk1, hk2, rfl, hll, HN, hown, hbr⟩ := hrel
    have hsz := hbr.size
    have HZr : Hid (Zero6 wr w.heap.size) := HZ1.out.below hbr (by omega)
    by_cases hlt : k < ws.length
    · obtain ⟨b, off, rfl, hbs, c0⟩ := HT1.out.below hbr k hlt
      have hsm := HSM.out k hlt
      obtain ⟨zl, z0, z1, z2, z3, z4, z5, zf⟩ := HZr.out
      have HT : Hid (NumsAre (ws.tail.take (k - 1)) l → ∀ n, IsNum ws[k].data.toList n → NumsAre (ws.tail.take (k + 1 - 1)) (l ++ [n])) := fun h n hn => by
        have e1 : k + 1 - 1 = (k - 1) + 1 := by omega
        have e2 : ws.tail.length = ws.length - 1 := by simp
        have e3 : k - 1 + 1 = k := by omega
        rw [e1, List.take_succ_eq_append_getElem (by omega), List.getElem_tail]
        simp only [e3]
        exact h.push hn
      go_wp2_with (first
        | (go_at_call 17; refine (rnumber_any ws[k] _ (by omega)).mono ?_; rintro e w2 ⟨n, ok, rfl, rfl, hy, hno⟩; have HY : Hid ((ok = true → IsNum ws[k].data.toList n) ∧ (ok = false → NoNum ws[k].data.toList)) := ⟨hy, hno⟩; clear hy hno; cases ok)
        | (at_builtin; refine wpList_append_own _ rfl _ _ 25 rfl w1.heap.size 3 i0 _ 1 8 liUnder HI.out.2.2.2 HI.out.1 HI.out.2.1 HI.out.2.2.1 rfl (by decide) _ _ _ rfl (hown.alloc _) ⟨w2.heap.size, 0, none⟩ 1 1 [.int .i64 n] rfl rfl ?c1 ?c2 ?c3 ?c4 ?c5 ?_)
        | go_in)
      · have HN2 : Hid (LineNo ws) := no_num hlt hk1 (HY.out.2 (by first | rfl | trivial))
        refine bodyPost_ret (v := .tuple #[.agg zeroNd.vals, .bool false]) (by simp [results, Tryz.results13, go_sem, zeroNd, Nd.vals, z0, z1, z2, z3, z4, z5]) rfl ⟨zeroNd, false, rfl, ?_, fun e => (by cases e), fun _ => HN2.out⟩
        exact (((((Below.setCell (HB1.out.trans (hbr.mono HB1.out.size)) (by exact Nat.le_refl _) _).setCell (by exact Nat.le_refl _) _).setCell (by exact Nat.le_refl _) _).setCell (by exact Nat.le_refl _) _).setCell (by exact Nat.le_refl _) _).setCell (by exact Nat.le_refl _) _
      case c1 =>
        intro j u hj
        match j, hj with
        | 0, hj => simp at hj; subst hj; simp [Addr.add, go_sem]
        | j + 1, hj => simp at hj
      case c2 => intro u hu; simp at hu; subst hu; rfl
      case c3 => unfold maxLen; omega
      case c4 => omega
      case c5 => simp; omega
      intro v' w3 hown' hgrow _
      have hb3 : Below w1.heap.size w1 w3 := (hbr.alloc hsz _).grown hgrow (by simp; omega) (fun j e => (hown.lt j e).1)
      have HO : Hid (w3.ownsRow w1.heap.size 3 1 v' (l ++ [n]).length ((l ++ [n]).map (Value.int .i64))) := by
        show w3.ownsRow _ _ _ _ _ _
        have e : (l ++ [n]).length = k := by simp; omega
        rw [e]
        simpa using hown'
      have HN3 : Hid (NumsAre (ws.tail.take (k + 1 - 1)) (l ++ [n])) := HT.out HN.out n (HY.out.1 (by first | rfl | trivial))
      clear hgrow hown hown'
      go_wp2
      exact ⟨⟨k + 1, l ++ [n], by omega, by omega, by go_num, by simp; omega, HN3, HO.out, hb3⟩, by simp [intOf]; omega⟩
    · have hke : k = ws.length := by omega
      subst hke
      rename World => wq
      clear hk2 hlt
      have HN2 : Hid (NumsAre ws.tail l) := by
        have e : ws.tail.take (ws.length - 1) = ws.tail := List.take_of_length_le (by simp)
        have := HN.out
        rw [e] at this
        exact this
      obtain ⟨t, hh⟩ : ∃ t, ws.head? = some t := by
        cases ws with
        | nil => simp at hl1
        | cons t r => exact ⟨t, rfl⟩
      have HH : Hid (ws.head? = some t) := hh
      obtain ⟨b, off, rfl, hbs, c0⟩ := HT1.out.below hbr 0 (by omega)
      have h0 : ws[0] = t := by
        have e : ws.head? = ws[0]? := List.head?_eq_getElem? ..
        rw [e, List.getElem?_eq_getElem (by omega)] at hh
        exact Option.some.inj hh
      rw [h0] at c0
      clear h0 hh HN hk1 HSM
      obtain ⟨lo, lc, rfl, hints⟩ := ints_of' hown
      have HL : Hid (∀ i, (h : i < l.length) → IntAt wq lo i l[i]) := hints
      clear hints
      go_wp2_with fail
      refine (words_any _).mono ?_
      rintro e w3 ⟨rfl, hW, hb3⟩
      have e1 : ∀ o, (wq.alloc o).heap.size = wq.heap.size + 1 := fun o => by simp
      rw [e1] at hW hb3
      have HW3 : Hid (WordsAt w3 (wq.heap.size + 1)) := hW
      have hb4 : Below wq.heap.size wq w3 := (Bl.more (Bl.refl wq) _).trans (hb3.mono (by simp))
      have HB4 : Hid (Below wq.heap.size wq w3) := hb4
      have HC4 : Hid (NdCell w3 wq.heap.size (bare 0)) := NdCell.mono2 (B := wq.heap.size + 1) (by refine ⟨by simp, by simp [go_sem, bare], by simp [go_sem, bare], by simp [go_sem, bare], by simp [go_sem, bare], by simp [go_sem, bare], by simp [go_sem, bare], by simp [go_sem]⟩) hb3 (by omega)
      clear hW hb3 hb4
      simp only [e1]
      go_wp2
      go_loopw [11] (fun v wx => ∃ i : Nat, 1 ≤ i ∧ i ≤ 9 ∧ v = .int .i64 i ∧ NdCell wx wq.heap.size (bare (opTo t (i - 1) : Nat)) ∧ Keeps (fun k => k = wq.heap.size) w3 wx) (fun v _ => 9 - (intOf v).toNat)
      case atStart => exact ⟨1, Nat.le_refl _, by omega, rfl, HC4.out, Keeps.refl _ _⟩
      case round =>
        obtain ⟨i, hi1, hi2, rfl, hC, hK⟩ := hrel
        have HC : Hid (NdCell wr wq.heap.size (bare (opTo t (i - 1) : Nat))) := hC
        have hwq : wq.heap.size < w3.heap.size := HC4.out.1
        have hbq : b < wq.heap.size := hbs
        have c0r : wr.cell? ⟨b, off, none⟩ = some (.string t) := (hK.cell (by exact Nat.lt_trans hbs hwq) (by dsimp only; omega)).trans ((HB4.out.cell (by exact hbs)).trans c0)
        have hbr3 : b < wr.heap.size := by have := hK.size; omega
        by_cases hlt : i < 9
        · have hw := (hK.cell (p := ⟨wq.heap.size + 1, i, none⟩) (by exact HW3.out.1) (by dsimp only; omega)).trans (HW3.out.at hi1 (by omega))
          have hwl : wq.heap.size + 1 < wr.heap.size := Nat.lt_of_lt_of_le HW3.out.1 hK.size
          have HO : Hid (opTo t (i + 1 - 1) = if bs (wordL (i : Int)) = t then i else opTo t (i - 1)) := by
            show _ = _
            have e : i + 1 - 1 = (i - 1) + 1 := by omega
            have e2 : i - 1 + 1 = i := by omega
            rw [e, opTo, e2]
          obtain ⟨hcl, q0, q1, q2, q3, q4, q5, qf⟩ := hC
          generalize hword : bs (wordL (i : Int)) = wd at *
          clear hword
          by_cases e : wd = t
          · have hb : (wd.toList == t.toList) = true := str_eq.2 e
            have HE : Hid (wd = t) := e
            clear e
            go_wp2
            go_quiet ((fail))
            go_wp2
            exact ⟨⟨i + 1, by omega, by omega, by go_num, by rw [HO.out, if_pos HE.out]; exact (NdCell.keepsDrew HC.out nq).setOp _, (hK.trans (Keeps.of_below (Bl.drew (Bl.refl _) _))).setCell (.inl rfl) _⟩, by simp [intOf]; omega⟩
          · have hb : (wd.toList == t.toList) = false := by
              cases hq : (wd.toList == t.toList) with
              | false => rfl
              | true => exact absurd (str_eq.1 hq) e
            have HE : Hid (¬ wd = t) := e
            clear e
            go_wp2
            go_quiet ((fail))
            go_wp2
            exact ⟨⟨i + 1, by omega, by omega, by go_num, by rw [HO.out, if_neg HE.out]; exact NdCell.keepsDrew HC.out nq, hK.trans (Keeps.of_below (Bl.drew (Bl.refl _) _))⟩, by simp [intOf]; omega⟩
        · have hie : i = 9 := by omega
          subst hie
          clear hi1 hi2 hlt hll
          have HLr : Hid (∀ i, (h : i < l.length) → ∃ g, lo = some ⟨g, 0, none⟩ ∧ g < wq.heap.size ∧ wr.cell? ⟨g, i, none⟩ = some (.int .i64 l[i])) := fun i h => by
            obtain ⟨g, e, hg, c⟩ := (HL.out i h)
            exact ⟨g, e, hg, (hK.cell (by exact Nat.lt_trans hg hwq) (by dsimp only; omega)).trans ((HB4.out.cell (by exact hg)).trans c)⟩
          have HBW : Hid (Below w.heap.size w wr) := (HB1.out.trans ((hbr.trans (HB4.out.mono hbr.size)).mono HB1.out.size)).trans (hK.below (Nat.le_trans (Nat.le_of_lt hs1) (Nat.le_trans hsz (Nat.le_of_lt hwq))) (fun k hk e => by omega))
          have hwlt : w.heap.size < wq.heap.size := by omega
          have HZw : Hid (Zero6 wr w.heap.size) := by
            have h := HZr.out.below HB4.out hwlt
            exact ⟨Nat.lt_of_lt_of_le h.lt hK.size, (hK.cell (by exact h.lt) (by dsimp only; omega)).trans h.c0, (hK.cell (by exact h.lt) (by dsimp only; omega)).trans h.c1, (hK.cell (by exact h.lt) (by dsimp only; omega)).trans h.c2, (hK.cell (by exact h.lt) (by dsimp only; omega)).trans h.c3, (hK.cell (by exact h.lt) (by dsimp only; omega)).trans h.c4, (hK.cell (by exact h.lt) (by dsimp only; omega)).trans h.c5, fun i => (hK.frozen (by exact h.lt) (by dsimp only; omega)).trans (h.fz i)⟩
          obtain ⟨zl, z0, z1, z2, z3, z4, z5, zf⟩ := HZw.out
          obtain ⟨hcl, q0, q1, q2, q3, q4, q5, qf⟩ := HC.out
          have e98 : 9 - 1 = 8 := rfl
          rw [e98] at q0
          simp only [bare] at q0 q1 q2 q3 q4 q5
          have HOP : Hid (opTo t 8 = opTo t 8) := rfl
          have hle := opTo_le t 8
          have HNW : Hid (opTo t 8 = 0 → LineNo ws) := fun h => no_word HH.out h
          have HNL : Hid (opTo t 8 ≠ 0 → l.length ≠ (saysZ (opTo t 8 : Int)).length → LineNo ws) := fun h hl => no_len HH.out HN2.out h hl
          have HYL : Hid (opTo t 8 ≠ 0 → l.length = (saysZ (opTo t 8 : Int)).length → LineYes ws (putAll (saysZ (opTo t 8 : Int)) l (bare (opTo t 8 : Int)))) := fun h hl => line_of_op HH.out HN2.out h hl
          clear HC hC e98 HOP
          generalize opTo t 8 = o at *
          have ho : o = 0 ∨ o = 1 ∨ o = 2 ∨ o = 3 ∨ o = 4 ∨ o = 5 ∨ o = 6 ∨ o = 7 ∨ o = 8 := by omega
          clear hle hK c0r c0 hbs hbr3 hbq hbr hown
          rcases ho with rfl | rfl | rfl | rfl | rfl | rfl | rfl | rfl | rfl
          · have hp : partsZ 0 = 0 := rfl
            have HN5 : Hid (LineNo ws) := HNW.out rfl
            clear HNW HNL HYL
            go_wp2_with (go_at_call 19; refine (parts_any _ _).mono ?_; rintro e w' ⟨rfl, rfl⟩)
            refine bodyPost_ret (v := .tuple #[.agg zeroNd.vals, .bool false]) (by simp [results, Tryz.results13, go_sem, zeroNd, Nd.vals, z0, z1, z2, z3, z4, z5]) rfl ⟨zeroNd, false, rfl, ?_, fun e => (by cases e), fun _ => HN5.out⟩
            repeat (first | refine Below.setCell ?_ (by dsimp only; omega) _ | exact HBW.out)
          · have hp : partsZ 1 = 0 := rfl
            by_cases hlen : l.length = 3
            · obtain ⟨x, y, z, rfl⟩ := len3 hlen
              have HY5 : Hid (LineYes ws ⟨1, 0, 0, x, y, z⟩) := HYL.out (by omega) rfl
              obtain ⟨g, hlo, hg, d0⟩ := HLr.out 0 (by simp)
              have hgne : g ≠ wq.heap.size := by omega
              subst hlo
              obtain ⟨g1, hlo1, _, d1⟩ := HLr.out 1 (by simp)
              cases hlo1
              obtain ⟨g2, hlo2, _, d2⟩ := HLr.out 2 (by simp)
              cases hlo2
              simp only [List.getElem_cons_zero, List.getElem_cons_succ] at d0 d1 d2
              clear HNW HNL HYL hlen
              go_wp2_with (go_at_call 19; refine (parts_any _ _).mono ?_; rintro e w' ⟨rfl, rfl⟩)
              refine bodyPost_ret (v := .tuple #[.agg (Nd.vals ⟨1, 0, 0, x, y, z⟩), .bool true]) (by simp [results, Tryz.results13, go_sem, Nd.vals, z0, z1, z2, z3, z4, z5]) rfl ⟨⟨1, 0, 0, x, y, z⟩, true, rfl, ?_, fun _ => HY5.out, fun e => (by cases e)⟩
              repeat (first | refine Below.setCell ?_ (by dsimp only; omega) _ | exact HBW.out)
            · have HN5 : Hid (LineNo ws) := HNL.out (by omega) hlen
              clear HNW HNL HYL
              go_wp2_with (go_at_call 19; refine (parts_any _ _).mono ?_; rintro e w' ⟨rfl, rfl⟩)
              refine bodyPost_ret (v := .tuple #[.agg zeroNd.vals, .bool false]) (by simp [results, Tryz.results13, go_sem, zeroNd, Nd.vals, z0, z1, z2, z3, z4, z5]) rfl ⟨zeroNd, false, rfl, ?_, fun e => (by cases e), fun _ => HN5.out⟩
              repeat (first | refine Below.setCell ?_ (by dsimp only; omega) _ | exact HBW.out)
          · have hp : partsZ 2 = 0 := rfl
            by_cases hlen : l.length = 3
            · obtain ⟨x, y, z, rfl⟩ := len3 hlen
              have HY5 : Hid (LineYes ws ⟨2, 0, 0, x, y, z⟩) := HYL.out (by omega) rfl
              obtain ⟨g, hlo, hg, d0⟩ := HLr.out 0 (by simp)
              have hgne : g ≠ wq.heap.size := by omega
              subst hlo
              obtain ⟨g1, hlo1, _, d1⟩ := HLr.out 1 (by simp)
              cases hlo1
              obtain ⟨g2, hlo2, _, d2⟩ := HLr.out 2 (by simp)
              cases hlo2
              simp only [List.getElem_cons_zero, List.getElem_cons_succ] at d0 d1 d2
              clear HNW HNL HYL hlen
              go_wp2_with (go_at_call 19; refine (parts_any _ _).mono ?_; rintro e w' ⟨rfl, rfl⟩)
              refine bodyPost_ret (v := .tuple #[.agg (Nd.vals ⟨2, 0, 0, x, y, z⟩), .bool true]) (by simp [results, Tryz.results13, go_sem, Nd.vals, z0, z1, z2, z3, z4, z5]) rfl ⟨⟨2, 0, 0, x, y, z⟩, true, rfl, ?_, fun _ => HY5.out, fun e => (by cases e)⟩
              repeat (first | refine Below.setCell ?_ (by dsimp only; omega) _ | exact HBW.out)
            · have HN5 : Hid (LineNo ws) := HNL.out (by omega) hlen
              clear HNW HNL HYL
              go_wp2_with (go_at_call 19; refine (parts_any _ _).mono ?_; rintro e w' ⟨rfl, rfl⟩)
              refine bodyPost_ret (v := .tuple #[.agg zeroNd.vals, .bool false]) (by simp [results, Tryz.results13, go_sem, zeroNd, Nd.vals, z0, z1, z2, z3, z4, z5]) rfl ⟨zeroNd, false, rfl, ?_, fun e => (by cases e), fun _ => HN5.out⟩
              repeat (first | refine Below.setCell ?_ (by dsimp only; omega) _ | exact HBW.out)
          · have hp : partsZ 3 = 2 := rfl
            by_cases hlen : l.length = 2
            · obtain ⟨x, y, rfl⟩ := len2 hlen
              have HY5 : Hid (LineYes ws ⟨3, x, y, 0, 0, 0⟩) := HYL.out (by omega) rfl
              obtain ⟨g, hlo, hg, d0⟩ := HLr.out 0 (by simp)
              have hgne : g ≠ wq.heap.size := by omega
              subst hlo
              obtain ⟨g1, hlo1, _, d1⟩ := HLr.out 1 (by simp)
              cases hlo1
              simp only [List.getElem_cons_zero, List.getElem_cons_succ] at d0 d1
              clear HNW HNL HYL hlen
              go_wp2_with (go_at_call 19; refine (parts_any _ _).mono ?_; rintro e w' ⟨rfl, rfl⟩)
              refine bodyPost_ret (v := .tuple #[.agg (Nd.vals ⟨3, x, y, 0, 0, 0⟩), .bool true]) (by simp [results, Tryz.results13, go_sem, Nd.vals, z0, z1, z2, z3, z4, z5]) rfl ⟨⟨3, x, y, 0, 0, 0⟩, true, rfl, ?_, fun _ => HY5.out, fun e => (by cases e)⟩
              repeat (first | refine Below.setCell ?_ (by dsimp only; omega) _ | exact HBW.out)
            · have HN5 : Hid (LineNo ws) := HNL.out (by omega) hlen
              clear HNW HNL HYL
              go_wp2_with (go_at_call 19; refine (parts_any _ _).mono ?_; rintro e w' ⟨rfl, rfl⟩)
              refine bodyPost_ret (v := .tuple #[.agg zeroNd.vals, .bool false]) (by simp [results, Tryz.results13, go_sem, zeroNd, Nd.vals, z0, z1, z2, z3, z4, z5]) rfl ⟨zeroNd, false, rfl, ?_, fun e => (by cases e), fun _ => HN5.out⟩
              repeat (first | refine Below.setCell ?_ (by dsimp only; omega) _ | exact HBW.out)
          · have hp : partsZ 4 = 2 := rfl
            by_cases hlen : l.length = 2
            · obtain ⟨x, y, rfl⟩ := len2 hlen
              have HY5 : Hid (LineYes ws ⟨4, x, y, 0, 0, 0⟩) := HYL.out (by omega) rfl
              obtain ⟨g, hlo, hg, d0⟩ := HLr.out 0 (by simp)
              have hgne : g ≠ wq.heap.size := by omega
              subst hlo
              obtain ⟨g1, hlo1, _, d1⟩ := HLr.out 1 (by simp)
              cases hlo1
              simp only [List.getElem_cons_zero, List.getElem_cons_succ] at d0 d1
              clear HNW HNL HYL hlen
              go_wp2_with (go_at_call 19; refine (parts_any _ _).mono ?_; rintro e w' ⟨rfl, rfl⟩)
              refine bodyPost_ret (v := .tuple #[.agg (Nd.vals ⟨4, x, y, 0, 0, 0⟩), .bool true]) (by simp [results, Tryz.results13, go_sem, Nd.vals, z0, z1, z2, z3, z4, z5]) rfl ⟨⟨4, x, y, 0, 0, 0⟩, true, rfl, ?_, fun _ => HY5.out, fun e => (by cases e)⟩
              repeat (first | refine Below.setCell ?_ (by dsimp only; omega) _ | exact HBW.out)
            · have HN5 : Hid (LineNo ws) := HNL.out (by omega) hlen
              clear HNW HNL HYL
              go_wp2_with (go_at_call 19; refine (parts_any _ _).mono ?_; rintro e w' ⟨rfl, rfl⟩)
              refine bodyPost_ret (v := .tuple #[.agg zeroNd.vals, .bool false]) (by simp [results, Tryz.results13, go_sem, zeroNd, Nd.vals, z0, z1, z2, z3, z4, z5]) rfl ⟨zeroNd, false, rfl, ?_, fun e => (by cases e), fun _ => HN5.out⟩
              repeat (first | refine Below.setCell ?_ (by dsimp only; omega) _ | exact HBW.out)
          · have hp : partsZ 5 = 2 := rfl
            by_cases hlen : l.length = 2
            · obtain ⟨x, y, rfl⟩ := len2 hlen
              have HY5 : Hid (LineYes ws ⟨5, x, y, 0, 0, 0⟩) := HYL.out (by omega) rfl
              obtain ⟨g, hlo, hg, d0⟩ := HLr.out 0 (by simp)
              have hgne : g ≠ wq.heap.size := by omega
              subst hlo
              obtain ⟨g1, hlo1, _, d1⟩ := HLr.out 1 (by simp)
              cases hlo1
              simp only [List.getElem_cons_zero, List.getElem_cons_succ] at d0 d1
              clear HNW HNL HYL hlen
              go_wp2_with (go_at_call 19; refine (parts_any _ _).mono ?_; rintro e w' ⟨rfl, rfl⟩)
              refine bodyPost_ret (v := .tuple #[.agg (Nd.vals ⟨5, x, y, 0, 0, 0⟩), .bool true]) (by simp [results, Tryz.results13, go_sem, Nd.vals, z0, z1, z2, z3, z4, z5]) rfl ⟨⟨5, x, y, 0, 0, 0⟩, true, rfl, ?_, fun _ => HY5.out, fun e => (by cases e)⟩
              repeat (first | refine Below.setCell ?_ (by dsimp only; omega) _ | exact HBW.out)
            · have HN5 : Hid (LineNo ws) := HNL.out (by omega) hlen
              clear HNW HNL HYL
              go_wp2_with (go_at_call 19; refine (parts_any _ _).mono ?_; rintro e w' ⟨rfl, rfl⟩)
              refine bodyPost_ret (v := .tuple #[.agg zeroNd.vals, .bool false]) (by simp [results, Tryz.results13, go_sem, zeroNd, Nd.vals, z0, z1, z2, z3, z4, z5]) rfl ⟨zeroNd, false, rfl, ?_, fun e => (by cases e), fun _ => HN5.out⟩
              repeat (first | refine Below.setCell ?_ (by dsimp only; omega) _ | exact HBW.out)
          · have hp : partsZ 6 = 1 := rfl
            by_cases hlen : l.length = 2
            · obtain ⟨x, y, rfl⟩ := len2 hlen
              have HY5 : Hid (LineYes ws ⟨6, y, 0, x, 0, 0⟩) := HYL.out (by omega) rfl
              obtain ⟨g, hlo, hg, d0⟩ := HLr.out 0 (by simp)
              have hgne : g ≠ wq.heap.size := by omega
              subst hlo
              obtain ⟨g1, hlo1, _, d1⟩ := HLr.out 1 (by simp)
              cases hlo1
              simp only [List.getElem_cons_zero, List.getElem_cons_succ] at d0 d1
              clear HNW HNL HYL hlen
              go_wp2_with (go_at_call 19; refine (parts_any _ _).mono ?_; rintro e w' ⟨rfl, rfl⟩)
              refine bodyPost_ret (v := .tuple #[.agg (Nd.vals ⟨6, y, 0, x, 0, 0⟩), .bool true]) (by simp [results, Tryz.results13, go_sem, Nd.vals, z0, z1, z2, z3, z4, z5]) rfl ⟨⟨6, y, 0, x, 0, 0⟩, true, rfl, ?_, fun _ => HY5.out, fun e => (by cases e)⟩
              repeat (first | refine Below.setCell ?_ (by dsimp only; omega) _ | exact HBW.out)
            · have HN5 : Hid (LineNo ws) := HNL.out (by omega) hlen
              clear HNW HNL HYL
              go_wp2_with (go_at_call 19; refine (parts_any _ _).mono ?_; rintro e w' ⟨rfl, rfl⟩)
              refine bodyPost_ret (v := .tuple #[.agg zeroNd.vals, .bool false]) (by simp [results, Tryz.results13, go_sem, zeroNd, Nd.vals, z0, z1, z2, z3, z4, z5]) rfl ⟨zeroNd, false, rfl, ?_, fun e => (by cases e), fun _ => HN5.out⟩
              repeat (first | refine Below.setCell ?_ (by dsimp only; omega) _ | exact HBW.out)
          · have hp : partsZ 7 = 2 := rfl
            by_cases hlen : l.length = 2
            · obtain ⟨x, y, rfl⟩ := len2 hlen
              have HY5 : Hid (LineYes ws ⟨7, x, y, 0, 0, 0⟩) := HYL.out (by omega) rfl
              obtain ⟨g, hlo, hg, d0⟩ := HLr.out 0 (by simp)
              have hgne : g ≠ wq.heap.size := by omega
              subst hlo
              obtain ⟨g1, hlo1, _, d1⟩ := HLr.out 1 (by simp)
              cases hlo1
              simp only [List.getElem_cons_zero, List.getElem_cons_succ] at d0 d1
              clear HNW HNL HYL hlen
              go_wp2_with (go_at_call 19; refine (parts_any _ _).mono ?_; rintro e w' ⟨rfl, rfl⟩)
              refine bodyPost_ret (v := .tuple #[.agg (Nd.vals ⟨7, x, y, 0, 0, 0⟩), .bool true]) (by simp [results, Tryz.results13, go_sem, Nd.vals, z0, z1, z2, z3, z4, z5]) rfl ⟨⟨7, x, y, 0, 0, 0⟩, true, rfl, ?_, fun _ => HY5.out, fun e => (by cases e)⟩
              repeat (first | refine Below.setCell ?_ (by dsimp only; omega) _ | exact HBW.out)
            · have HN5 : Hid (LineNo ws) := HNL.out (by omega) hlen
              clear HNW HNL HYL
              go_wp2_with (go_at_call 19; refine (parts_any _ _).mono ?_; rintro e w' ⟨rfl, rfl⟩)
              refine bodyPost_ret (v := .tuple #[.agg zeroNd.vals, .bool false]) (by simp [results, Tryz.results13, go_sem, zeroNd, Nd.vals, z0, z1, z2, z3, z4, z5]) rfl ⟨zeroNd, false, rfl, ?_, fun e => (by cases e), fun _ => HN5.out⟩
              repeat (first | refine Below.setCell ?_ (by dsimp only; omega) _ | exact HBW.out)
          · have hp : partsZ 8 = 1 := rfl
            by_cases hlen : l.length = 1
            · obtain ⟨x, rfl⟩ := len1 hlen
              have HY5 : Hid (LineYes ws ⟨8, x, 0, 0, 0, 0⟩) := HYL.out (by omega) rfl
              obtain ⟨g, hlo, hg, d0⟩ := HLr.out 0 (by simp)
              have hgne : g ≠ wq.heap.size := by omega
              subst hlo
              simp only [List.getElem_cons_zero] at d0
              clear HNW HNL HYL hlen
              go_wp2_with (go_at_call 19; refine (parts_any _ _).mono ?_; rintro e w' ⟨rfl, rfl⟩)
              refine bodyPost_ret (v := .tuple #[.agg (Nd.vals ⟨8, x, 0, 0, 0, 0⟩), .bool true]) (by simp [results, Tryz.results13, go_sem, Nd.vals, z0, z1, z2, z3, z4, z5]) rfl ⟨⟨8, x, 0, 0, 0, 0⟩, true, rfl, ?_, fun _ => HY5.out, fun e => (by cases e)⟩
              repeat (first | refine Below.setCell ?_ (by dsimp only; omega) _ | exact HBW.out)
            · have HN5 : Hid (LineNo ws) := HNL.out (by omega) hlen
              clear HNW HNL HYL
              go_wp2_with (go_at_call 19; refine (parts_any _ _).mono ?_; rintro e w' ⟨rfl, rfl⟩)
              refine bodyPost_ret (v := .tuple #[.agg zeroNd.vals, .bool false]) (by simp [results, Tryz.results13, go_sem, zeroNd, Nd.vals, z0, z1, z2, z3, z4, z5]) rfl ⟨zeroNd, false, rfl, ?_, fun e => (by cases e), fun _ => HN5.out⟩
              repeat (first | refine Below.setCell ?_ (by dsimp only; omega) _ | exact HBW.out)
end Go.Proofs.YtlcmllmphpllbaaGreatDoor
