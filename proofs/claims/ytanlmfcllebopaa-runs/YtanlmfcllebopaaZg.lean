/- graphs.Run, walked: the loop. -/
import Derived.Test.YtanlmfcllebopaaZf
namespace Go.Proofs.Ytanlmfcllebopaa
open Go.RowKit

theorem inputsOk_no {ns : List Nd} {ins : List Mx} {m : Nat} (h : m < ns.length) (hi : inputOk ins ns[m] = false) : inputsOk ns ins = false := by
  rw [inputsOk, List.all_eq_false]; exact ⟨ns[m], List.getElem_mem h, by simp [hi]⟩
theorem inputsOk_yes {ns : List Nd} {ins : List Mx} (h : ∀ j, (hj : j < ns.length) → inputOk ins ns[j] = true) : inputsOk ns ins = true := by
  rw [inputsOk, List.all_eq_true]
  intro x hx
  obtain ⟨j, hj, rfl⟩ := List.getElem_of_mem hx
  exact h j hj
theorem in_k {ns : List Nd} {m : Nat} {n : Nd} (h : nodeOk ns m n = true) (ho : n.op = 1) : 0 ≤ n.k ∧ n.k < 8 := by
  obtain ⟨op, a, b, k, r, c⟩ := n
  simp only at ho
  subst ho
  simp only [nodeOk, placedZ_in, Bool.and_eq_true, decide_eq_true_eq] at h
  exact ⟨h.1.1.1.1.1.1.1.2, h.1.1.1.1.1.1.2⟩
theorem inputOk_in {ins : List Mx} {n : Nd} {k : Nat} (ho : n.op = 1) (hk : n.k = k) (hl : k < ins.length) : inputOk ins n = (ins[k].rows == n.rows && ins[k].cols == n.cols && (ins[k].nums.length : Int) == n.rows * n.cols) := by
  have h : decide ((k : Int) < ins.length) = true := by simpa using hl
  rw [inputOk, ho, hk, partM_at ins k hl, h]
  simp
theorem inputOk_out {ins : List Mx} {n : Nd} {k : Nat} (ho : n.op = 1) (hk : n.k = k) (hl : ¬ k < ins.length) : inputOk ins n = false := by
  have h : decide ((k : Int) < ins.length) = false := by simpa using hl
  rw [inputOk, ho, hk, h]
  simp
theorem Given.lastRow {w : World} {gb : Nat} {ns : List Nd} {ins : List Mx} {m : Nat} (h : Given w gb ns ins m) (hm : m ≤ ns.length) (j : Nat) (hj : j < m) :
    ∃ ao ac, w.cell? ⟨gb, j * 3, none⟩ = some (.int .i64 (partM (gives ns ins m) j).rows) ∧ w.cell? ⟨gb, j * 3 + 1, none⟩ = some (.int .i64 (partM (gives ns ins m) j).cols) ∧ w.cell? ⟨gb, j * 3 + 2, none⟩ = some (.slice ao (partM (gives ns ins m) j).nums.length ac) ∧ w.ownsRow (gb + 1) 3 1 (.slice ao (partM (gives ns ins m) j).nums.length ac) (partM (gives ns ins m) j).nums.length ((partM (gives ns ins m) j).nums.map (Value.int .i64)) := by
  obtain ⟨_, ao, ac, c0, c1, c2, _⟩ := h.part hm j hj
  obtain ⟨vs, rest, h1, h2, h3, h4⟩ := h
  have hg := gives_len ns ins m
  have hl := matCells_len (gives ns ins m) vs (by omega)
  obtain ⟨_, _, d2⟩ := matCells_at (gives ns ins m) vs j (by omega) (by omega)
  have e := h3.cellAt (j * 3 + 2) (by omega)
  rw [List.getElem?_append_left (by omega), d2, c2] at e
  have e' := Option.some.inj e
  refine ⟨ao, ac, c0, c1, c2, ?_⟩
  rw [e']
  exact h4 j hj
theorem Given.room {w : World} {gb : Nat} {ns : List Nd} {ins : List Mx} {m : Nat} (h : Given w gb ns ins m) (hm : m < ns.length) :
    ∃ x0 x1 x2, w.cell? ⟨gb, m * 3, none⟩ = some x0 ∧ w.cell? ⟨gb, m * 3 + 1, none⟩ = some x1 ∧ w.cell? ⟨gb, m * 3 + 2, none⟩ = some x2 ∧ ∀ j, w.frozen? ⟨gb, j, none⟩ = false := by
  obtain ⟨vs, rest, h1, h2, h3, h4⟩ := h
  have hl := h3.1
  have h : ∀ j, j < ns.length * 3 → ∃ x, w.cell? ⟨gb, j, none⟩ = some x := fun j hj => by
    rw [h3.cellAt j hj]
    exact ⟨_, List.getElem?_eq_getElem (by omega)⟩
  obtain ⟨x0, e0⟩ := h (m * 3) (by omega)
  obtain ⟨x1, e1⟩ := h (m * 3 + 1) (by omega)
  obtain ⟨x2, e2⟩ := h (m * 3 + 2) (by omega)
  exact ⟨x0, x1, x2, e0, e1, e2, fun j => h3.frozenAt j⟩
theorem run_round {w wG : World} {gb rb X : Nat} {ns : List Nd} {ins : List Mx} {m : Nat} {v : Value} {I A B : Mx} (hm : m < ns.length) (hx : gives ns ins (m + 1) = gives ns ins m ++ [giveM ns[m] I A B])
    (hgv : Given wG gb ns ins m) (hrs : ResCell wG rb) (hne : rb ≠ gb) (hb : Below w.heap.size w wG) (hgb : w.heap.size ≤ gb) (hX : gb + 1 ≤ X)
    (hv : wG.ownsRow X 3 1 v (ns[m].rows.toNat * ns[m].cols.toNat) ((numsTo (valZ ns[m] I A B) ns[m].cols.toNat (ns[m].rows.toNat * ns[m].cols.toNat)).map (Value.int .i64))) :
    Given (((wG.setCell ⟨gb, m * 3, none⟩ (.int .i64 ns[m].rows)).setCell ⟨gb, m * 3 + 1, none⟩ (.int .i64 ns[m].cols)).setCell ⟨gb, m * 3 + 2, none⟩ v) gb ns ins (m + 1) ∧ ResCell (((wG.setCell ⟨gb, m * 3, none⟩ (.int .i64 ns[m].rows)).setCell ⟨gb, m * 3 + 1, none⟩ (.int .i64 ns[m].cols)).setCell ⟨gb, m * 3 + 2, none⟩ v) rb
      ∧ Below w.heap.size w (((wG.setCell ⟨gb, m * 3, none⟩ (.int .i64 ns[m].rows)).setCell ⟨gb, m * 3 + 1, none⟩ (.int .i64 ns[m].cols)).setCell ⟨gb, m * 3 + 2, none⟩ v) := by
  refine ⟨?_, hrs.ofBlock (by simp) ?_, ((hb.setCell (by exact hgb) _).setCell (by exact hgb) _).setCell (by exact hgb) _⟩
  · refine hgv.push hm (giveM ns[m] I A B) hx ?_
    have h := ownsRow_base hv hX
    show wG.ownsRow (gb + 1) _ 1 v (numsTo _ _ _).length _
    rw [numsTo_len]
    exact h
  · rw [Below.heap_setCell _ _ _ _ (by exact hne), Below.heap_setCell _ _ _ _ (by exact hne), Below.heap_setCell _ _ _ _ (by exact hne)]
/-- what Run of the program answers -/
def RunPost (ns : List Nd) (ins : List Mx) (w : World) (e : Ending) (w' : World) : Prop :=
  (Hid (inputsOk ns ins = true) ∧ ∃ v, e = .returned (.tuple #[.agg #[.int .i64 (partM (gives ns ins ns.length) (ns.length - 1 : Nat)).rows, .int .i64 (partM (gives ns ins ns.length) (ns.length - 1 : Nat)).cols, v], .bool true]) ∧ w'.ownsRow w.heap.size 3 1 v (partM (gives ns ins ns.length) (ns.length - 1 : Nat)).nums.length ((partM (gives ns ins ns.length) (ns.length - 1 : Nat)).nums.map (Value.int .i64)) ∧ Below w.heap.size w w')
  ∨ (Hid (inputsOk ns ins = false) ∧ e = .returned (.tuple #[.agg #[.int .i64 0, .int .i64 0, .slice none 0 0], .bool false]) ∧ Below w.heap.size w w')
set_option maxHeartbeats 8000000 in
set_option maxRecDepth 100000 in
theorem pgrun (ns : List Nd) (ins : List Mx) (ao io : Option Addr) (cap ic : Nat) (w : World) (hn : Nodes w ao ns) (hI : Mats w io ins) (hg : isGraphB ns = true) (_hil : ins.length * 40 ≤ 140737488351232) :
    Calls Try.prog 22 #[.slice ao ns.length cap, .slice io ins.length ic] w (RunPost ns ins w) := by
  have h100 := len100 hg
  have HG : Hid (isGraphB ns = true) := hg
  clear hg
  obtain ⟨i0, hi, hz0, hz1, hz2⟩ := info_parts infoMx
  have HI : Hid (i0.zero = some (.agg #[.int .i64 0, .int .i64 0, .slice none 0 0]) ∧ i0.size = 3 ∧ i0.bytes = 40 ∧ Try.prog.info? 34 = some i0) := ⟨hz0, hz1, hz2, hi⟩
  clear hi hz0 hz1 hz2
  go_enter Try.func22, Try.ntmps22
  go_wp2_with (at_make; refine wpList_make_full _ rfl (.tmp 13) (.tmp 13) 23 rfl (w.heap.size + 1) 34 i0 (.agg #[.int .i64 0, .int .i64 0, .slice none 0 0]) 3 underMxs HI.out.2.2.2 HI.out.1 HI.out.2.1 _ _ _ _ ns.length rfl rfl rfl rfl ?b2 ?b3 ?b4 ?_)
  case b2 => rw [HI.out.2.2.1]; omega
  case b3 => unfold maxLen; omega
  case b4 => simp
  intro w0 hown0 hgrow0
  have HGV : Hid (Given w0 (w.heap.size + 1) ns ins 0) := Given.new (by simpa using hown0)
  have hb0 : Below w.heap.size w w0 := Bl.trans (Bl.more (Bl.refl w) _) ⟨hgrow0.os, hgrow0.tape, hgrow0.output, hgrow0.size, fun k hk => hgrow0.block k hk (by simp)⟩
  have HRS : Hid (ResCell w0 w.heap.size) := (ResCell.new w w.heap.size _ rfl).below ⟨hgrow0.os, hgrow0.tape, hgrow0.output, hgrow0.size, fun k hk => hgrow0.block k hk (by simp)⟩
  clear hown0 hgrow0
  go_wp2
  go_loopw [17] (fun j wr => ∃ m : Nat, m ≤ ns.length ∧ j = .int .i64 m ∧ Hid (Given wr (w.heap.size + 1) ns ins m) ∧ Hid (ResCell wr w.heap.size) ∧ Hid (∀ j, j < m → (hj : j < ns.length) → inputOk ins ns[j] = true) ∧ Below w.heap.size w wr) (fun j _ => ns.length - (intOf j).toNat)
  case atStart => exact ⟨0, Nat.zero_le _, rfl, HGV.out, HRS.out, fun j hj => absurd hj (Nat.not_lt_zero _), hb0⟩
  case round =>
    clear HGV HRS hb0
    obtain ⟨m, hm, rfl, hgv, hrs, hall, hbr⟩ := hrel
    have hgw : w.heap.size + 1 < wr.heap.size := by
      obtain ⟨_, _, _, _, h3, _⟩ := hgv.out
      exact (h3.lt _ rfl).2
    by_cases hlt : m < ns.length
    · have hN := hn.below hbr
      obtain ⟨bl, off, rfl, hbs, c0, c1, c2, c3, c4, c5⟩ := hN m hlt
      clear hN
      have hok := ok_at HG.out m hlt
      have hkn : knownP ns[m].op := op_range hok
      have HO : Hid (knownP ns[m].op) := hkn
      have HSD : Hid (sidesOk ns[m]) := sides HG.out m hlt
      have HP : Hid (nodeOk ns m ns[m] = true) := hok
      have HX : Hid (gives ns ins (m + 1) = gives ns ins m ++ [giveM ns[m] (inputOf ins ns[m]) (partA (gives ns ins m) ns[m]) (partB (gives ns ins m) ns[m])]) := by show gives ns ins (m + 1) = _; rw [gives, nth_at ns m hlt]
      clear hok
      have hal := al1 hbs
      have hcases : ns[m].op = 1 ∨ ns[m].op = 2 ∨ (ns[m].op = 6 ∨ ns[m].op = 8) ∨ (ns[m].op = 3 ∨ ns[m].op = 4 ∨ ns[m].op = 5 ∨ ns[m].op = 7) := by simp only [knownP] at hkn; omega
      clear hkn
      rcases hcases with hop | hop | hop | hop
      · have hin : (ns[m].op == 1) = true := by simp [hop]
        have u1 : decide ((1 : Int) ∈ saysZ ns[m].op) = false := by simp [saysZ, hop]
        have u2 : decide ((2 : Int) ∈ saysZ ns[m].op) = false := by simp [saysZ, hop]
        have hk0 : 0 ≤ ns[m].k ∧ ns[m].k < 8 := in_k HP.out hop
        have hI0 : inputOf ins ns[m] = partM ins ns[m].k := by simp [inputOf, hop]
        have hA0 : partA (gives ns ins m) ns[m] = zeroMx := by simp [partA, partsZ, hop]
        have hB0 : partB (gives ns ins m) ns[m] = zeroMx := by simp [partB, partsZ, hop]
        rw [hI0, hA0, hB0] at HX
        have HOP : Hid (ns[m].op = 1) := hop
        clear hop
        obtain ⟨k, hk⟩ := Int.eq_ofNat_of_zero_le hk0.1
        have HK : Hid (ns[m].k = k) := hk
        clear hk
        by_cases hkl : k < ins.length
        · cases hib : (ins[k].rows == ns[m].rows && ins[k].cols == ns[m].cols && (ins[k].nums.length : Int) == ns[m].rows * ns[m].cols)
          · have HNO : Hid (inputsOk ns ins = false) := inputsOk_no hlt ((inputOk_in HOP.out HK.out hkl).trans hib)
            have HIB : Hid ((ins[k].rows == ns[m].rows && ins[k].cols == ns[m].cols && (ins[k].nums.length : Int) == ns[m].rows * ns[m].cols) = false) := hib
            clear hib
            go_wp2_with fail
            refine (known_lit _ _ HO.out).mono ?_
            rintro e w1 ⟨b, rfl, hs1, hb1⟩
            have HN1 : Hid (NdCell w1 wr.heap.size ns[m]) := NdCell.below (NdCell.new wr ns[m]) hb1
            have HW1 : Hid (Below wr.heap.size wr w1) := Bl.trans (Bl.more (Bl.refl wr) _) hb1
            have HS1 : Hid (SaysAt w1 b ns[m].op) := hs1
            clear hs1 hb1 hal c0 c1 c2 c3 c4 c5
            obtain ⟨z1, m0, m1, m2, m3, m4, m5, _⟩ := HN1.out
            have hz1 := HW1.out.size
            have hn2 := al2 z1
            go_wp2_with fail
            refine (there_some ns[m] ins io ic k _ ?_ HK.out hkl HSD.out).mono ?_
            · exact (hI.below (Bl.trans hbr HW1.out)).below (by repeat (first | exact Bl.refl _ | refine Bl.more ?_ _ | refine Below.drew ?_ | refine Below.setCell ?_ ?_ _ | (dsimp only; omega) | (simp; omega)))
            rintro e wT ⟨rfl, hbT⟩
            rw [HIB.out]
            have HWT : Hid (Below wr.heap.size wr wT) := Bl.trans (Bl.trans HW1.out (by repeat (first | exact Bl.refl _ | refine Bl.more ?_ _ | refine Below.drew ?_ | refine Below.setCell ?_ ?_ _ | (dsimp only; omega) | (simp; omega)))) hbT
            have HRT : Hid (ResCell wT w.heap.size) := hrs.out.below HWT.out
            obtain ⟨⟨y0, y1, y2, y3⟩, yf⟩ := HRT.out
            go_wp2
            exact bodyPost_ret (v := .tuple #[.agg #[.int .i64 0, .int .i64 0, .slice none 0 0], .bool false]) (by simp [results, Try.results22, go_sem, y1, y2, y3]) rfl (.inr ⟨HNO.out, rfl, (((Bl.trans hbr HWT.out).setCell (by exact Nat.le_refl _) _).setCell (by exact Nat.le_refl _) _).setCell (by exact Nat.le_refl _) _⟩)
          · have HINP : Hid (inputOk ins ns[m] = true) := (inputOk_in HOP.out HK.out hkl).trans hib
            have HIB : Hid ((ins[k].rows == ns[m].rows && ins[k].cols == ns[m].cols && (ins[k].nums.length : Int) == ns[m].rows * ns[m].cols) = true) := hib
            clear hib
            have hpk : partM ins ns[m].k = ins[k] := by rw [HK.out]; exact partM_at ins k hkl
            have HFT : Hid (∀ i k' : Int, 0 ≤ i ∧ i < ns[m].rows → 0 ≤ k' ∧ k' < ns[m].cols → Fits ns[m] ins[k] zeroMx zeroMx i k') := fun i k' hi hk => by
              have := node_fits HG.out hlt HINP.out hi hk
              rwa [hI0, hA0, hB0, hpk] at this
            rw [hpk] at HX
            clear hpk hI0 hA0 hB0
            obtain ⟨bi, offi, rfl, hbi, i0', i1', no, nc, i2', hints⟩ := hI k hkl
            have HIN : Hid (Ints w no ins[k].nums) := hints
            have HIC : Hid (bi < w.heap.size ∧ w.cell? ⟨bi, offi + k * 3, none⟩ = some (.int .i64 ins[k].rows) ∧ w.cell? ⟨bi, offi + k * 3 + 1, none⟩ = some (.int .i64 ins[k].cols) ∧ w.cell? ⟨bi, offi + k * 3 + 2, none⟩ = some (.slice no ins[k].nums.length nc)) := ⟨hbi, i0', i1', i2'⟩
            have hki : ns[m].k < ins.length := by rw [HK.out]; omega
            clear hints i0' i1' i2'
            go_wp2_with fail
            refine (known_lit _ _ HO.out).mono ?_
            rintro e w1 ⟨b, rfl, hs1, hb1⟩
            have HN1 : Hid (NdCell w1 wr.heap.size ns[m]) := NdCell.below (NdCell.new wr ns[m]) hb1
            have HW1 : Hid (Below wr.heap.size wr w1) := Bl.trans (Bl.more (Bl.refl wr) _) hb1
            have HS1 : Hid (SaysAt w1 b ns[m].op) := hs1
            clear hs1 hb1 hal c0 c1 c2 c3 c4 c5
            obtain ⟨z1, m0, m1, m2, m3, m4, m5, _⟩ := HN1.out
            have hz1 := HW1.out.size
            have hn2 := al2 z1
            go_wp2_with fail
            refine (there_some ns[m] ins _ ic k _ ?_ HK.out hkl HSD.out).mono ?_
            · exact (hI.below (Bl.trans hbr HW1.out)).below (by repeat (first | exact Bl.refl _ | refine Bl.more ?_ _ | refine Below.drew ?_ | refine Below.setCell ?_ ?_ _ | (dsimp only; omega) | (simp; omega)))
            rintro e wT ⟨rfl, hbT⟩
            rw [HIB.out]
            have HWT1 : Hid (Below w1.heap.size w1 wT) := Bl.trans (by repeat (first | exact Bl.refl _ | refine Bl.more ?_ _ | refine Below.drew ?_ | refine Below.setCell ?_ ?_ _ | (dsimp only; omega) | (simp; omega))) hbT
            have HNT : Hid (NdCell wT wr.heap.size ns[m]) := HN1.out.below HWT1.out
            have HKT : Hid (KindCell wT w1.heap.size ns[m].op b) := ((KindCell.new w1 ns[m].op b).below (Bl.more (Bl.refl _) _)).below hbT
            have HKC : Hid (WorkCell wT (w1.heap.size + 1) ns[m] zeroMx zeroMx zeroMx none none none 0 0 0 ∧ ∀ j, wT.frozen? ⟨w1.heap.size + 1, j, none⟩ = false) := by
              refine ⟨WorkCell.below (w := _) ?_ hbT, fun j => (hbT.frozen (p := ⟨w1.heap.size + 1, j, none⟩) (by simp)).trans (by simp [go_sem])⟩
              exact ⟨by simp, by simp [go_sem], by simp [go_sem], by simp [go_sem], by simp [go_sem], by simp [go_sem], by simp [go_sem], by simp [go_sem, zeroMx], by simp [go_sem, zeroMx], by simp [go_sem, zeroMx], by simp [go_sem, zeroMx], by simp [go_sem, zeroMx], by simp [go_sem, zeroMx], by simp [go_sem, zeroMx], by simp [go_sem, zeroMx], by simp [go_sem, zeroMx]⟩
            have hzT := hbT.size
            simp at hzT
            have hbT2 := Bl.trans (Bl.trans hbr HW1.out) HWT1.out
            have hkt : ns[m].k.toNat = k := by rw [HK.out]; simp
            have j0 : wT.cell? ⟨bi, offi + ns[m].k.toNat * 3, none⟩ = some (.int .i64 ins[k].rows) := by rw [hkt]; exact (hbT2.cell (p := ⟨bi, offi + k * 3, none⟩) HIC.out.1).trans HIC.out.2.1
            have j1 : wT.cell? ⟨bi, offi + ns[m].k.toNat * 3 + 1, none⟩ = some (.int .i64 ins[k].cols) := by rw [hkt]; exact (hbT2.cell (p := ⟨bi, offi + k * 3 + 1, none⟩) HIC.out.1).trans HIC.out.2.2.1
            have j2 : wT.cell? ⟨bi, offi + ns[m].k.toNat * 3 + 2, none⟩ = some (.slice no ins[k].nums.length nc) := by rw [hkt]; exact (hbT2.cell (p := ⟨bi, offi + k * 3 + 2, none⟩) HIC.out.1).trans HIC.out.2.2.2
            clear hkt m0 m1 m2 m3 m4 m5 hn2 hbT hbT2
            obtain ⟨_, m0, m1, m2, m3, m4, m5, _⟩ := HNT.out
            obtain ⟨_, k0, k1, k2, k3, k4⟩ := HKT.out
            obtain ⟨⟨_, q0, q1, q2, q3, q4, q5, q6, q7, q8, q9, q10, q11, q12, q13, q14⟩, qf⟩ := HKC.out
            simp only [zeroMx, List.length_nil] at q6 q7 q8 q9 q10 q11 q12 q13 q14
            have HRD : Hid (Reads3 w1 ns[m] ins[k] zeroMx zeroMx no none none) := ⟨fun _ => HIN.out.below (Bl.trans hbr HW1.out), fun e => by rw [HOP.out] at e; exact absurd e (by decide), fun e => by rw [HOP.out] at e; exact absurd e (by decide)⟩
            go_wp2_with (first | (go_at_call 42; refine (uses_lit ns[m].op _ b _ ?_).mono ?_; (exact HS1.out.below (by repeat (first | exact HWT1.out | exact Bl.refl _ | refine Bl.more ?_ _ | refine Below.drew ?_ | refine Below.setCell ?_ ?_ _ | (dsimp only; omega) | (simp; omega)))); rintro e w' ⟨rfl, rfl⟩) | (go_at_call 43; refine (gives_any ns[m] ins[k] zeroMx zeroMx no none none nc 0 0 b (atF ns[m].op) (valZ ns[m] ins[k] zeroMx zeroMx) _ (atF_enters HO.out) HSD.out ?_).mono ?_; (intro i k9 w' hi hk hb'; exact at_all ns[m] ins[k] zeroMx zeroMx no none none nc 0 0 i k9 w' HO.out (HRD.out.below (Bl.trans (by repeat (first | exact HWT1.out | exact Bl.refl _ | refine Bl.more ?_ _ | refine Below.drew ?_ | refine Below.setCell ?_ ?_ _ | (dsimp only; omega) | (simp; omega))) hb')) (HFT.out i k9 ⟨by omega, hi⟩ ⟨by omega, hk⟩)); rintro e wG ⟨v, rfl, hownG, hbG⟩; obtain ⟨vo, vc, rfl, _⟩ := ints_view (numsTo_len _ _ _) hownG; have HWG : Hid (Below wr.heap.size wr wG) := Bl.trans (Bl.trans HW1.out (by repeat (first | exact HWT1.out | exact Bl.refl _ | refine Bl.more ?_ _ | refine Below.drew ?_ | refine Below.setCell ?_ ?_ _ | (dsimp only; omega) | (simp; omega)))) hbG; have HGVG : Hid (Given wG (w.heap.size + 1) ns ins m) := hgv.out.below HWG.out; obtain ⟨x0, x1, x2, e0, e1, e2, ef⟩ := HGVG.out.room hlt))
            all_goals
              obtain ⟨g1, g2, g3⟩ := run_round (rb := w.heap.size) hlt HX.out HGVG.out (hrs.out.below HWG.out) (by omega) (Bl.trans hbr HWG.out) (by omega) (by simp; omega) hownG
              have HR : Hid (Given _ _ ns ins (m + 1)) := g1
              clear e0 e1 e2 ef g1
              go_wp2
              go_roundw
              case rel => exact ⟨m + 1, by omega, by go_num, HR.out, g2, (fun j hj hl => by
                by_cases ej : j = m
                · subst ej; exact HINP.out
                · exact hall.out j (by omega) hl), g3⟩
              case measure => simp [intOf]; omega
        · have HNO : Hid (inputsOk ns ins = false) := inputsOk_no hlt (inputOk_out HOP.out HK.out hkl)
          go_wp2_with fail
          refine (known_lit _ _ HO.out).mono ?_
          rintro e w1 ⟨b, rfl, hs1, hb1⟩
          have HN1 : Hid (NdCell w1 wr.heap.size ns[m]) := NdCell.below (NdCell.new wr ns[m]) hb1
          have HW1 : Hid (Below wr.heap.size wr w1) := Bl.trans (Bl.more (Bl.refl wr) _) hb1
          have HS1 : Hid (SaysAt w1 b ns[m].op) := hs1
          clear hs1 hb1 hal c0 c1 c2 c3 c4 c5
          obtain ⟨z1, m0, m1, m2, m3, m4, m5, _⟩ := HN1.out
          have hz1 := HW1.out.size
          have hn2 := al2 z1
          go_wp2_with fail
          refine (there_no ns[m] ins io ic _ (by rw [HK.out]; omega)).mono ?_
          rintro e wT ⟨rfl, hbT⟩
          have HWT : Hid (Below wr.heap.size wr wT) := Bl.trans (Bl.trans HW1.out (by repeat (first | exact Bl.refl _ | refine Bl.more ?_ _ | refine Below.drew ?_ | refine Below.setCell ?_ ?_ _ | (dsimp only; omega) | (simp; omega)))) hbT
          have HRT : Hid (ResCell wT w.heap.size) := hrs.out.below HWT.out
          obtain ⟨⟨y0, y1, y2, y3⟩, yf⟩ := HRT.out
          go_wp2
          exact bodyPost_ret (v := .tuple #[.agg #[.int .i64 0, .int .i64 0, .slice none 0 0], .bool false]) (by simp [results, Try.results22, go_sem, y1, y2, y3]) rfl (.inr ⟨HNO.out, rfl, (((Bl.trans hbr HWT.out).setCell (by exact Nat.le_refl _) _).setCell (by exact Nat.le_refl _) _).setCell (by exact Nat.le_refl _) _⟩)
      · have hin : (ns[m].op == 1) = false := by simp [hop]
        have u1 : decide ((1 : Int) ∈ saysZ ns[m].op) = false := by simp [saysZ, hop]
        have u2 : decide ((2 : Int) ∈ saysZ ns[m].op) = false := by simp [saysZ, hop]
        have hpz : partsZ ns[m].op = 0 := by simp [partsZ, hop]
        have h1 : ¬ ns[m].op = 1 := by omega
        have HINP : Hid (inputOk ins ns[m] = true) := by show inputOk ins ns[m] = true; simp [inputOk, h1]
        have hI0 : inputOf ins ns[m] = zeroMx := by simp [inputOf, h1]
        have hA0 : partA (gives ns ins m) ns[m] = zeroMx := by simp [partA, hpz]
        have hB0 : partB (gives ns ins m) ns[m] = zeroMx := by simp [partB, hpz]
        rw [hI0, hA0, hB0] at HX
        have HFT : Hid (∀ i k : Int, 0 ≤ i ∧ i < ns[m].rows → 0 ≤ k ∧ k < ns[m].cols → Fits ns[m] zeroMx zeroMx zeroMx i k) := fun i k hi hk => by
          have := node_fits HG.out hlt HINP.out hi hk
          rwa [hI0, hA0, hB0] at this
        have pa := (ok_parts HP.out).1
        have pb := (ok_parts HP.out).2.1
        have HPZ : Hid (partsZ ns[m].op = 0 ∧ ¬ ns[m].op = 1) := ⟨hpz, h1⟩
        clear hop hI0 hA0 hB0 hpz h1 pa pb
        go_wp2_with fail
        refine (known_lit _ _ HO.out).mono ?_
        rintro e w1 ⟨b, rfl, hs1, hb1⟩
        have HN1 : Hid (NdCell w1 wr.heap.size ns[m]) := NdCell.below (NdCell.new wr ns[m]) hb1
        have HW1 : Hid (Below wr.heap.size wr w1) := Bl.trans (Bl.more (Bl.refl wr) _) hb1
        have HS1 : Hid (SaysAt w1 b ns[m].op) := hs1
        clear hs1 hb1 hal c0 c1 c2 c3 c4 c5
        obtain ⟨z1, m0, m1, m2, m3, m4, m5, _⟩ := HN1.out
        have hz1 := HW1.out.size
        have HRD : Hid (Reads3 w1 ns[m] zeroMx zeroMx zeroMx none none none) := ⟨fun e => absurd e HPZ.out.2, fun e => by have := HPZ.out.1; omega, fun e => by have := HPZ.out.1; omega⟩
        go_wp2_with (first | (go_at_call 42; refine (uses_lit ns[m].op _ b _ ?_).mono ?_; (exact HS1.out.below (by repeat (first | exact Bl.refl _ | refine Bl.more ?_ _ | refine Below.drew ?_ | refine Below.setCell ?_ ?_ _ | (dsimp only; omega) | (simp; omega)))); rintro e w' ⟨rfl, rfl⟩) | (go_at_call 43; refine (gives_any ns[m] zeroMx zeroMx zeroMx none none none 0 0 0 b (atF ns[m].op) (valZ ns[m] zeroMx zeroMx zeroMx) _ (atF_enters HO.out) HSD.out ?_).mono ?_; (intro i k9 w' hi hk hb'; exact at_all ns[m] zeroMx zeroMx zeroMx none none none 0 0 0 i k9 w' HO.out (HRD.out.below (Bl.trans (by repeat (first | exact Bl.refl _ | refine Bl.more ?_ _ | refine Below.drew ?_ | refine Below.setCell ?_ ?_ _ | (dsimp only; omega) | (simp; omega))) hb')) (HFT.out i k9 ⟨by omega, hi⟩ ⟨by omega, hk⟩)); rintro e wG ⟨v, rfl, hownG, hbG⟩; obtain ⟨vo, vc, rfl, _⟩ := ints_view (numsTo_len _ _ _) hownG; have HWG : Hid (Below wr.heap.size wr wG) := Bl.trans (Bl.trans HW1.out (by repeat (first | exact Bl.refl _ | refine Bl.more ?_ _ | refine Below.drew ?_ | refine Below.setCell ?_ ?_ _ | (dsimp only; omega) | (simp; omega)))) hbG; have HGVG : Hid (Given wG (w.heap.size + 1) ns ins m) := hgv.out.below HWG.out; obtain ⟨x0, x1, x2, e0, e1, e2, ef⟩ := HGVG.out.room hlt))
        all_goals
          obtain ⟨g1, g2, g3⟩ := run_round (rb := w.heap.size) hlt HX.out HGVG.out (hrs.out.below HWG.out) (by omega) (Bl.trans hbr HWG.out) (by omega) (by simp; omega) hownG
          have HR : Hid (Given _ _ ns ins (m + 1)) := g1
          clear e0 e1 e2 ef g1
          go_wp2
          go_roundw
          case rel => exact ⟨m + 1, by omega, by go_num, HR.out, g2, (fun j hj hl => by
            by_cases ej : j = m
            · subst ej; exact HINP.out
            · exact hall.out j (by omega) hl), g3⟩
          case measure => simp [intOf]; omega
      · have hin : (ns[m].op == 1) = false := by rcases hop with h | h <;> simp [h]
        have u1 : decide ((1 : Int) ∈ saysZ ns[m].op) = true := by rcases hop with h | h <;> simp [saysZ, h]
        have u2 : decide ((2 : Int) ∈ saysZ ns[m].op) = false := by rcases hop with h | h <;> simp [saysZ, h]
        have hpz : partsZ ns[m].op = 1 := by rcases hop with h | h <;> simp [partsZ, h]
        have h1 : ¬ ns[m].op = 1 := by omega
        have HINP : Hid (inputOk ins ns[m] = true) := by show inputOk ins ns[m] = true; simp [inputOk, h1]
        have hI0 : inputOf ins ns[m] = zeroMx := by simp [inputOf, h1]
        have hA0 : partA (gives ns ins m) ns[m] = (partM (gives ns ins m) ns[m].a) := by simp [partA, hpz]
        have hB0 : partB (gives ns ins m) ns[m] = zeroMx := by simp [partB, hpz]
        rw [hI0, hA0, hB0] at HX
        have HFT : Hid (∀ i k : Int, 0 ≤ i ∧ i < ns[m].rows → 0 ≤ k ∧ k < ns[m].cols → Fits ns[m] zeroMx (partM (gives ns ins m) ns[m].a) zeroMx i k) := fun i k hi hk => by
          have := node_fits HG.out hlt HINP.out hi hk
          rwa [hI0, hA0, hB0] at this
        have pa := (ok_parts HP.out).1
        have pb := (ok_parts HP.out).2.1
        obtain ⟨pa1, pa2⟩ := pa (by omega)
        have pa3 : ns[m].a < ns.length := by omega
        have HPZ : Hid (partsZ ns[m].op = 1 ∧ ¬ ns[m].op = 1) := ⟨hpz, h1⟩
        clear hop hI0 hA0 hB0 hpz h1 pa pb
        go_wp2_with fail
        refine (known_lit _ _ HO.out).mono ?_
        rintro e w1 ⟨b, rfl, hs1, hb1⟩
        have HN1 : Hid (NdCell w1 wr.heap.size ns[m]) := NdCell.below (NdCell.new wr ns[m]) hb1
        have HW1 : Hid (Below wr.heap.size wr w1) := Bl.trans (Bl.more (Bl.refl wr) _) hb1
        have HS1 : Hid (SaysAt w1 b ns[m].op) := hs1
        clear hs1 hb1 hal c0 c1 c2 c3 c4 c5
        obtain ⟨z1, m0, m1, m2, m3, m4, m5, _⟩ := HN1.out
        have hz1 := HW1.out.size
        have HGV1 : Hid (Given w1 (w.heap.size + 1) ns ins m) := hgv.out.below HW1.out
        have hgw1 : w.heap.size + 1 < w1.heap.size := by omega
        have hn3 := al3 z1
        have hg3 := al3 hgw1
        have hn4 := al4 z1
        have hg4 := al4 hgw1
        obtain ⟨_, ao, ac, a0, a1, a2, hia⟩ := HGV1.out.part hm ns[m].a.toNat (by omega)
        rw [Int.toNat_of_nonneg pa1] at a0 a1 a2 hia
        have HIA : Hid (Ints w1 ao (partM (gives ns ins m) ns[m].a).nums) := hia
        clear hia
        have HRD : Hid (Reads3 w1 ns[m] zeroMx (partM (gives ns ins m) ns[m].a) zeroMx none ao none) := ⟨fun e => absurd e HPZ.out.2, fun e => HIA.out, fun e => by have := HPZ.out.1; omega⟩
        go_wp2_with (first | (go_at_call 42; refine (uses_lit ns[m].op _ b _ ?_).mono ?_; (exact HS1.out.below (by repeat (first | exact Bl.refl _ | refine Bl.more ?_ _ | refine Below.drew ?_ | refine Below.setCell ?_ ?_ _ | (dsimp only; omega) | (simp; omega)))); rintro e w' ⟨rfl, rfl⟩) | (go_at_call 43; refine (gives_any ns[m] zeroMx (partM (gives ns ins m) ns[m].a) zeroMx none ao none 0 ac 0 b (atF ns[m].op) (valZ ns[m] zeroMx (partM (gives ns ins m) ns[m].a) zeroMx) _ (atF_enters HO.out) HSD.out ?_).mono ?_; (intro i k9 w' hi hk hb'; exact at_all ns[m] zeroMx (partM (gives ns ins m) ns[m].a) zeroMx none ao none 0 ac 0 i k9 w' HO.out (HRD.out.below (Bl.trans (by repeat (first | exact Bl.refl _ | refine Bl.more ?_ _ | refine Below.drew ?_ | refine Below.setCell ?_ ?_ _ | (dsimp only; omega) | (simp; omega))) hb')) (HFT.out i k9 ⟨by omega, hi⟩ ⟨by omega, hk⟩)); rintro e wG ⟨v, rfl, hownG, hbG⟩; obtain ⟨vo, vc, rfl, _⟩ := ints_view (numsTo_len _ _ _) hownG; have HWG : Hid (Below wr.heap.size wr wG) := Bl.trans (Bl.trans HW1.out (by repeat (first | exact Bl.refl _ | refine Bl.more ?_ _ | refine Below.drew ?_ | refine Below.setCell ?_ ?_ _ | (dsimp only; omega) | (simp; omega)))) hbG; have HGVG : Hid (Given wG (w.heap.size + 1) ns ins m) := hgv.out.below HWG.out; obtain ⟨x0, x1, x2, e0, e1, e2, ef⟩ := HGVG.out.room hlt))
        all_goals
          obtain ⟨g1, g2, g3⟩ := run_round (rb := w.heap.size) hlt HX.out HGVG.out (hrs.out.below HWG.out) (by omega) (Bl.trans hbr HWG.out) (by omega) (by simp; omega) hownG
          have HR : Hid (Given _ _ ns ins (m + 1)) := g1
          clear e0 e1 e2 ef g1
          go_wp2
          go_roundw
          case rel => exact ⟨m + 1, by omega, by go_num, HR.out, g2, (fun j hj hl => by
            by_cases ej : j = m
            · subst ej; exact HINP.out
            · exact hall.out j (by omega) hl), g3⟩
          case measure => simp [intOf]; omega
      · have hin : (ns[m].op == 1) = false := by rcases hop with h | h | h | h <;> simp [h]
        have u1 : decide ((1 : Int) ∈ saysZ ns[m].op) = true := by rcases hop with h | h | h | h <;> simp [saysZ, h]
        have u2 : decide ((2 : Int) ∈ saysZ ns[m].op) = true := by rcases hop with h | h | h | h <;> simp [saysZ, h]
        have hpz : partsZ ns[m].op = 2 := by rcases hop with h | h | h | h <;> simp [partsZ, h]
        have h1 : ¬ ns[m].op = 1 := by omega
        have HINP : Hid (inputOk ins ns[m] = true) := by show inputOk ins ns[m] = true; simp [inputOk, h1]
        have hI0 : inputOf ins ns[m] = zeroMx := by simp [inputOf, h1]
        have hA0 : partA (gives ns ins m) ns[m] = (partM (gives ns ins m) ns[m].a) := by simp [partA, hpz]
        have hB0 : partB (gives ns ins m) ns[m] = (partM (gives ns ins m) ns[m].b) := by simp [partB, hpz]
        rw [hI0, hA0, hB0] at HX
        have HFT : Hid (∀ i k : Int, 0 ≤ i ∧ i < ns[m].rows → 0 ≤ k ∧ k < ns[m].cols → Fits ns[m] zeroMx (partM (gives ns ins m) ns[m].a) (partM (gives ns ins m) ns[m].b) i k) := fun i k hi hk => by
          have := node_fits HG.out hlt HINP.out hi hk
          rwa [hI0, hA0, hB0] at this
        have pa := (ok_parts HP.out).1
        have pb := (ok_parts HP.out).2.1
        obtain ⟨pa1, pa2⟩ := pa (by omega)
        have pa3 : ns[m].a < ns.length := by omega
        obtain ⟨pb1, pb2⟩ := pb (by omega)
        have pb3 : ns[m].b < ns.length := by omega
        have HPZ : Hid (partsZ ns[m].op = 2 ∧ ¬ ns[m].op = 1) := ⟨hpz, h1⟩
        clear hop hI0 hA0 hB0 hpz h1 pa pb
        go_wp2_with fail
        refine (known_lit _ _ HO.out).mono ?_
        rintro e w1 ⟨b, rfl, hs1, hb1⟩
        have HN1 : Hid (NdCell w1 wr.heap.size ns[m]) := NdCell.below (NdCell.new wr ns[m]) hb1
        have HW1 : Hid (Below wr.heap.size wr w1) := Bl.trans (Bl.more (Bl.refl wr) _) hb1
        have HS1 : Hid (SaysAt w1 b ns[m].op) := hs1
        clear hs1 hb1 hal c0 c1 c2 c3 c4 c5
        obtain ⟨z1, m0, m1, m2, m3, m4, m5, _⟩ := HN1.out
        have hz1 := HW1.out.size
        have HGV1 : Hid (Given w1 (w.heap.size + 1) ns ins m) := hgv.out.below HW1.out
        have hgw1 : w.heap.size + 1 < w1.heap.size := by omega
        have hn3 := al3 z1
        have hg3 := al3 hgw1
        have hn4 := al4 z1
        have hg4 := al4 hgw1
        obtain ⟨_, ao, ac, a0, a1, a2, hia⟩ := HGV1.out.part hm ns[m].a.toNat (by omega)
        rw [Int.toNat_of_nonneg pa1] at a0 a1 a2 hia
        have HIA : Hid (Ints w1 ao (partM (gives ns ins m) ns[m].a).nums) := hia
        clear hia
        obtain ⟨_, bo, bc, b0, b1, b2, hib⟩ := HGV1.out.part hm ns[m].b.toNat (by omega)
        rw [Int.toNat_of_nonneg pb1] at b0 b1 b2 hib
        have HIB : Hid (Ints w1 bo (partM (gives ns ins m) ns[m].b).nums) := hib
        clear hib
        have HRD : Hid (Reads3 w1 ns[m] zeroMx (partM (gives ns ins m) ns[m].a) (partM (gives ns ins m) ns[m].b) none ao bo) := ⟨fun e => absurd e HPZ.out.2, fun e => HIA.out, fun e => HIB.out⟩
        go_wp2_with (first | (go_at_call 42; refine (uses_lit ns[m].op _ b _ ?_).mono ?_; (exact HS1.out.below (by repeat (first | exact Bl.refl _ | refine Bl.more ?_ _ | refine Below.drew ?_ | refine Below.setCell ?_ ?_ _ | (dsimp only; omega) | (simp; omega)))); rintro e w' ⟨rfl, rfl⟩) | (go_at_call 43; refine (gives_any ns[m] zeroMx (partM (gives ns ins m) ns[m].a) (partM (gives ns ins m) ns[m].b) none ao bo 0 ac bc b (atF ns[m].op) (valZ ns[m] zeroMx (partM (gives ns ins m) ns[m].a) (partM (gives ns ins m) ns[m].b)) _ (atF_enters HO.out) HSD.out ?_).mono ?_; (intro i k9 w' hi hk hb'; exact at_all ns[m] zeroMx (partM (gives ns ins m) ns[m].a) (partM (gives ns ins m) ns[m].b) none ao bo 0 ac bc i k9 w' HO.out (HRD.out.below (Bl.trans (by repeat (first | exact Bl.refl _ | refine Bl.more ?_ _ | refine Below.drew ?_ | refine Below.setCell ?_ ?_ _ | (dsimp only; omega) | (simp; omega))) hb')) (HFT.out i k9 ⟨by omega, hi⟩ ⟨by omega, hk⟩)); rintro e wG ⟨v, rfl, hownG, hbG⟩; obtain ⟨vo, vc, rfl, _⟩ := ints_view (numsTo_len _ _ _) hownG; have HWG : Hid (Below wr.heap.size wr wG) := Bl.trans (Bl.trans HW1.out (by repeat (first | exact Bl.refl _ | refine Bl.more ?_ _ | refine Below.drew ?_ | refine Below.setCell ?_ ?_ _ | (dsimp only; omega) | (simp; omega)))) hbG; have HGVG : Hid (Given wG (w.heap.size + 1) ns ins m) := hgv.out.below HWG.out; obtain ⟨x0, x1, x2, e0, e1, e2, ef⟩ := HGVG.out.room hlt))
        all_goals
          obtain ⟨g1, g2, g3⟩ := run_round (rb := w.heap.size) hlt HX.out HGVG.out (hrs.out.below HWG.out) (by omega) (Bl.trans hbr HWG.out) (by omega) (by simp; omega) hownG
          have HR : Hid (Given _ _ ns ins (m + 1)) := g1
          clear e0 e1 e2 ef g1
          go_wp2
          go_roundw
          case rel => exact ⟨m + 1, by omega, by go_num, HR.out, g2, (fun j hj hl => by
            by_cases ej : j = m
            · subst ej; exact HINP.out
            · exact hall.out j (by omega) hl), g3⟩
          case measure => simp [intOf]; omega
    · have hml : m = ns.length := by omega
      subst hml
      have HYES : Hid (inputsOk ns ins = true) := inputsOk_yes (fun j hj => hall.out j hj hj)
      obtain ⟨lo, lc, a0, a1, a2, hown⟩ := hgv.out.lastRow (Nat.le_refl _) (ns.length - 1) (by omega)
      have HOWN : Hid (wr.ownsRow (w.heap.size + 1 + 1) 3 1 (.slice lo (partM (gives ns ins ns.length) (ns.length - 1 : Nat)).nums.length lc) (partM (gives ns ins ns.length) (ns.length - 1 : Nat)).nums.length ((partM (gives ns ins ns.length) (ns.length - 1 : Nat)).nums.map (Value.int .i64))) := hown
      clear hown
      have hx1 : (0 : Int) ≤ (ns.length : Int) - 1 := by omega
      have hx2 : (ns.length : Int) - 1 < ns.length := by omega
      have ht : ((ns.length : Int) - 1).toNat = ns.length - 1 := by omega
      have b0 := a0
      have b1 := a1
      have b2 := a2
      rw [← ht] at b0 b1 b2
      obtain ⟨⟨y0, y1, y2, y3⟩, yf⟩ := hrs.out
      have hne : w.heap.size ≠ w.heap.size + 1 := by omega
      go_wp2
      refine bodyPost_ret (v := .tuple #[.agg #[.int .i64 (partM (gives ns ins ns.length) (ns.length - 1 : Nat)).rows, .int .i64 (partM (gives ns ins ns.length) (ns.length - 1 : Nat)).cols, .slice lo (partM (gives ns ins ns.length) (ns.length - 1 : Nat)).nums.length lc], .bool true]) (by simp [results, Try.results22, go_sem, y1, y2, y3]) rfl (.inl ⟨HYES.out, _, rfl, ?_, ?_⟩)
      · exact ownsRow_base (ownsRow_setCell_below (ownsRow_setCell_below (ownsRow_setCell_below HOWN.out (by dsimp only; omega) _) (by dsimp only; omega) _) (by dsimp only; omega) _) (by omega)
      · exact ((hbr.setCell (by exact Nat.le_refl _) _).setCell (by exact Nat.le_refl _) _).setCell (by exact Nat.le_refl _) _
end Go.Proofs.Ytanlmfcllebopaa
