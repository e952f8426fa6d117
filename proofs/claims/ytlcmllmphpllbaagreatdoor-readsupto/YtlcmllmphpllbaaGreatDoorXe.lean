/- Kind.Parts, Builder.hasParts, Kind.Uses, walked. -/
import Derived.Test.YtlcmllmphpllbaaGreatDoorXd
import Derived.Test.YtlcmllmphpllbaaGreatDoorWk
namespace Go.Proofs.YtlcmllmphpllbaaGreatDoor
open Go.RowKit

def partsTo (op : Int) (n : Nd) : Nat → List Int
  | 0 => []
  | m + 1 => partsTo op n m ++ (if (saysZ op).getD m 0 = 1 ∨ (saysZ op).getD m 0 = 2 then [ofZ ((saysZ op).getD m 0) n] else [])
theorem partsTo_len (op : Int) (n : Nd) : ∀ m, (partsTo op n m).length ≤ m
  | 0 => Nat.le_refl _
  | m + 1 => by have := partsTo_len op n m; rw [partsTo, List.length_append]; split <;> simp <;> omega

theorem SaysAt.mono2 {w w' : World} {b B : Nat} {op : Int} (h : SaysAt w b op) (hb : Below B w w') (hlt : b < B) : SaysAt w' b op :=
  ⟨Nat.lt_of_lt_of_le h.1 hb.size, fun j hj => by rw [hb.cell (by exact hlt)]; exact h.2 j hj⟩
theorem NdCell.mono2 {w w' : World} {b B : Nat} {n : Nd} (h : NdCell w b n) (hb : Below B w w') (hlt : b < B) : NdCell w' b n := by
  obtain ⟨hs, c0, c1, c2, c3, c4, c5, hf⟩ := h
  refine ⟨Nat.lt_of_lt_of_le hs hb.size, ?_, ?_, ?_, ?_, ?_, ?_, fun j => ?_⟩
  · rw [hb.cell (by exact hlt)]; exact c0
  · rw [hb.cell (by exact hlt)]; exact c1
  · rw [hb.cell (by exact hlt)]; exact c2
  · rw [hb.cell (by exact hlt)]; exact c3
  · rw [hb.cell (by exact hlt)]; exact c4
  · rw [hb.cell (by exact hlt)]; exact c5
  · rw [hb.frozen (by exact hlt)]; exact hf j

set_option maxHeartbeats 2000000 in
theorem parts_list (op : Int) (b : Nat) (n : Nd) (w : World) (hs : SaysAt w b op) :
    Calls Tryz.prog 61 #[.agg (kindCells op b), .agg n.vals] w fun e w' => ∃ ao cap, e = .returned (.slice ao (partsTo op n (saysZ op).length).length cap) ∧
      (∀ j, j < (partsTo op n (saysZ op).length).length → ∃ g, ao = some ⟨g, 0, none⟩ ∧ g < w'.heap.size ∧ w'.cell? ⟨g, j, none⟩ = some (.int .i64 ((partsTo op n (saysZ op).length).getD j 0))) ∧ Below w.heap.size w w' := by
  have hl := says_len op
  obtain ⟨i0, hi, hz0, hz1, hz2⟩ := info_parts infoInt
  have HI : Hid (i0.zero = some (.int .i64 0) ∧ i0.size = 1 ∧ i0.bytes = 8 ∧ Tryz.prog.info? 3 = some i0) := ⟨hz0, hz1, hz2, hi⟩
  clear hi hz0 hz1 hz2
  simp only [kindCells, Nd.vals]
  generalize hwd : bs (wordL op) = wd
  generalize hsf : shapeF op = sf
  generalize hcf : costF op = cf
  generalize haf : atF op = af
  clear hwd hsf hcf haf
  go_enter Tryz.func61, Tryz.ntmps61
  go_wp2
  go_loopw [5, 11] (fun v j wr => ∃ m : Nat, m ≤ (saysZ op).length ∧ j = .int .i64 m ∧ SaysAt wr b op ∧ NdCell wr (w.heap.size + 1) n ∧ wr.ownsRow (w.heap.size + 1 + 1) 3 1 v (partsTo op n m).length ((partsTo op n m).map (Value.int .i64)) ∧ Below w.heap.size w wr) (fun _ j _ => (saysZ op).length - (intOf j).toNat)
  case atStart => exact ⟨0, Nat.zero_le _, rfl, hs.below (Bl.more (Bl.more (Bl.refl _) _) _), ⟨by simp, by simp [go_sem], by simp [go_sem], by simp [go_sem], by simp [go_sem], by simp [go_sem], by simp [go_sem], fun j => by simp [go_sem]⟩, World.ownsRow_nil _ _ _ _, Bl.more (Bl.more (Bl.refl _) _) _⟩
  case round =>
    obtain ⟨m, hm, rfl, hsa, hn1, hown, hbr⟩ := hrel
    obtain ⟨lo, lc, rfl, hview⟩ := ints_view rfl hown
    clear hview
    have hpl := partsTo_len op n m
    have hsz := hn1.1
    by_cases hlt : m < (saysZ op).length
    · have cs := hsa.2 m hlt
      have hf := says_mem op m hlt
      have HT : Hid (partsTo op n (m + 1) = partsTo op n m ++ (if (saysZ op)[m] = 1 ∨ (saysZ op)[m] = 2 then [ofZ (saysZ op)[m] n] else [])) := by show partsTo op n m ++ _ = _; simp [hlt]
      have HN1 : Hid (NdCell wr (w.heap.size + 1) n) := hn1
      have HSA : Hid (SaysAt wr b op) := hsa
      generalize (saysZ op)[m] = f at *
      obtain ⟨z1, c0, c1, c2, c3, c4, c5, _⟩ := hn1
      have hbl := hsa.1
      clear hsa
      by_cases hff : f = 1 ∨ f = 2
      · have HF : Hid (f = 1 ∨ f = 2) := hff
        have hx : ∃ x, Hid (x = ofZ f n) := ⟨_, rfl⟩
        rcases hff with rfl | rfl
        · go_wp2_with (first | (go_at_call 73; refine (of_lit _ _ _ _ _ _ _ _ hf).mono ?_; rintro e w1 ⟨x, hx, rfl, hb1⟩; have hown1 := hown.kept (w' := w1) (row := none) ⟨hb1.os, hb1.tape, hb1.output, hb1.size, fun k hk _ => hb1.block k hk⟩ (by cases lo <;> simp [Value.ownBlock]); have hz1 := hb1.size) | (at_builtin; (refine wpList_append_own _ rfl (.tmp 21) (.tmp 25) 25 rfl (w.heap.size + 1 + 1) 3 i0 _ 1 8 underInts HI.out.2.2.2 HI.out.1 HI.out.2.1 HI.out.2.2.1 rfl (by decide) _ _ _ rfl (by exact hown1.alloc _) ⟨w1.heap.size, 0, none⟩ 1 1 [.int .i64 x] rfl rfl ?c1a ?c2a ?c3a ?c4a ?c5a ?_)))
          case c1a =>
            intro j u hj
            match j, hj with
            | 0, hj => simp at hj; subst hj; simp [Addr.add, go_sem]
            | j + 1, hj => simp at hj
          case c2a => intro u hu; simp at hu; subst hu; rfl
          case c3a => unfold maxLen; omega
          case c4a => omega
          case c5a => simp; omega
          intro v' w2 hown' hgrow _
          have hT : partsTo op n (m + 1) = partsTo op n m ++ [x] := by rw [HT.out, if_pos HF.out, hx.out]
          have hb2 := (Bl.more hb1 (.cells #[.int .i64 x] 3)).grown (B := wr.heap.size) hgrow (by simp; omega)
          have hcs : w2.ownsRow (w.heap.size + 1 + 1) 3 1 v' (partsTo op n (m + 1)).length ((partsTo op n (m + 1)).map (Value.int .i64)) := by rw [hT]; simpa using hown'
          have hbw : Below (w.heap.size + 1 + 1) wr w2 := ((hb1.mono (by omega)).alloc (by omega) _).grown hgrow (by simp; omega) (fun j e => (hown1.lt j e).1)
          clear hb2 hgrow hown' hT
          go_wp2
          go_roundw
          case rel => exact ⟨m + 1, by omega, by go_num, SaysAt.mono2 HSA.out hbw (by have := hs.1; omega), NdCell.mono2 HN1.out hbw (by omega), hcs, hbr.trans (hbw.mono (by omega))⟩
          case measure => simp [intOf]; omega
        · go_wp2_with (first | (go_at_call 73; refine (of_lit _ _ _ _ _ _ _ _ hf).mono ?_; rintro e w1 ⟨x, hx, rfl, hb1⟩; have hown1 := hown.kept (w' := w1) (row := none) ⟨hb1.os, hb1.tape, hb1.output, hb1.size, fun k hk _ => hb1.block k hk⟩ (by cases lo <;> simp [Value.ownBlock]); have hz1 := hb1.size) | (at_builtin; (refine wpList_append_own _ rfl (.tmp 21) (.tmp 25) 25 rfl (w.heap.size + 1 + 1) 3 i0 _ 1 8 underInts HI.out.2.2.2 HI.out.1 HI.out.2.1 HI.out.2.2.1 rfl (by decide) _ _ _ rfl (by exact hown1.alloc _) ⟨w1.heap.size, 0, none⟩ 1 1 [.int .i64 x] rfl rfl ?c1b ?c2b ?c3b ?c4b ?c5b ?_)))
          case c1b =>
            intro j u hj
            match j, hj with
            | 0, hj => simp at hj; subst hj; simp [Addr.add, go_sem]
            | j + 1, hj => simp at hj
          case c2b => intro u hu; simp at hu; subst hu; rfl
          case c3b => unfold maxLen; omega
          case c4b => omega
          case c5b => simp; omega
          intro v' w2 hown' hgrow _
          have hT : partsTo op n (m + 1) = partsTo op n m ++ [x] := by rw [HT.out, if_pos HF.out, hx.out]
          have hb2 := (Bl.more hb1 (.cells #[.int .i64 x] 3)).grown (B := wr.heap.size) hgrow (by simp; omega)
          have hcs : w2.ownsRow (w.heap.size + 1 + 1) 3 1 v' (partsTo op n (m + 1)).length ((partsTo op n (m + 1)).map (Value.int .i64)) := by rw [hT]; simpa using hown'
          have hbw : Below (w.heap.size + 1 + 1) wr w2 := ((hb1.mono (by omega)).alloc (by omega) _).grown hgrow (by simp; omega) (fun j e => (hown1.lt j e).1)
          clear hb2 hgrow hown' hT
          go_wp2
          go_roundw
          case rel => exact ⟨m + 1, by omega, by go_num, SaysAt.mono2 HSA.out hbw (by have := hs.1; omega), NdCell.mono2 HN1.out hbw (by omega), hcs, hbr.trans (hbw.mono (by omega))⟩
          case measure => simp [intOf]; omega
      · have HF : Hid (¬ (f = 1 ∨ f = 2)) := hff
        have b1 : (f == 1) = false := by simp at hff ⊢; exact hff.1
        have b2 : (f == 2) = false := by simp at hff ⊢; exact hff.2
        have HB : Hid (¬ (f = 1 ∨ f = 2)) := hff
        clear hff
        have hT : partsTo op n (m + 1) = partsTo op n m := by rw [HT.out, if_neg HF.out, List.append_nil]
        have HT2 : Hid (partsTo op n (m + 1) = partsTo op n m) := hT
        clear hT
        go_wp2
        go_roundw
        case rel => exact ⟨m + 1, by omega, by go_num, HSA.out, HN1.out, by rw [HT2.out]; exact hown, hbr⟩
        case measure => simp [intOf]; omega
    · have hml : m = (saysZ op).length := by omega
      have E1 : Hid (partsTo op n (saysZ op).length = partsTo op n m) := by show partsTo op n (saysZ op).length = partsTo op n m; rw [hml]
      obtain ⟨lo', lc', hv, hview⟩ := ints_view rfl hown
      have HV : Hid (∀ j, j < (partsTo op n m).length → ∃ g, lo' = some ⟨g, 0, none⟩ ∧ g < wr.heap.size ∧ wr.cell? ⟨g, j, none⟩ = some (.int .i64 ((partsTo op n m).getD j 0))) := hview
      simp only [Value.slice.injEq, true_and] at hv
      obtain ⟨rfl, rfl⟩ := hv
      clear hview hn1 hsa
      have HM : Hid (m = (saysZ op).length) := hml
      clear hml
      go_wp2
      go_ret
      rw [E1.out]
      exact ⟨_, _, rfl, HV.out, hbr⟩
end Go.Proofs.YtlcmllmphpllbaaGreatDoor
