/- thriftref.Run, walked. -/
import Derived.Test.YtanlmfcllebopaaZo
namespace Go.Proofs.Ytanlmfcllebopaa
open Go.RowKit

set_option maxHeartbeats 2000000 in
theorem rrun_nograph (ns : List Nd) (ins : List Mx) (ao io : Option Addr) (cap ic : Nat) (w : World) (hn : Nodes w ao ns) (hs : ns.length * 48 ≤ 140737488351232) (hg : isGraphB ns = false) :
    Calls Try.prog 13 #[.slice ao ns.length cap, .slice io ins.length ic] w fun e w' => e = .returned (.tuple #[.agg #[.int .i64 0, .int .i64 0, .slice none 0 0], .int .i64 4]) ∧ Below w.heap.size w w' := by
  go_enter Try.func13, Try.ntmps13
  go_wp2_with fail
  refine (isGraph_any ns _ _ _ (hn.below (Bl.more (Bl.more (Bl.refl _) _) _)) hs).mono ?_
  rintro e w1 ⟨rfl, hb1⟩
  have hr0 : ResCell w1 w.heap.size := ((ResCell.new w w.heap.size _ rfl).below (Bl.more (Bl.refl _) _)).below hb1
  have hr1 : ResCell w1 (w.heap.size + 1) := (ResCell.new _ (w.heap.size + 1) _ (by simp)).below hb1
  obtain ⟨⟨y0, y1, y2, y3⟩, yf⟩ := hr0
  obtain ⟨⟨z0, z1, z2, z3⟩, zf⟩ := hr1
  have hbw : Below w.heap.size w w1 := Bl.trans (Bl.more (Bl.more (Bl.refl _) _) _) hb1
  clear hb1
  go_wp2
  exact bodyPost_ret (v := .tuple #[.agg #[.int .i64 0, .int .i64 0, .slice none 0 0], .int .i64 4]) (by simp [results, Try.results13, go_sem, y1, y2, y3]) rfl ⟨rfl, by repeat (first | exact hbw | refine Below.setCell ?_ (by exact Nat.le_refl _) _)⟩
/-- what the document's Run answers at a graph -/
def RRunPost (ns : List Nd) (ins : List Mx) (w : World) (e : Ending) (w' : World) : Prop :=
  (Hid (inputsOk ns ins = true) ∧ ∃ no nc, e = .returned (.tuple #[.agg #[.int .i64 (partM (gives ns ins ns.length) (ns.length - 1 : Nat)).rows, .int .i64 (partM (gives ns ins ns.length) (ns.length - 1 : Nat)).cols, .slice no (partM (gives ns ins ns.length) (ns.length - 1 : Nat)).nums.length nc], .int .i64 0]) ∧ Ints w' no (partM (gives ns ins ns.length) (ns.length - 1 : Nat)).nums ∧ Below w.heap.size w w')
  ∨ (Hid (inputsOk ns ins = false) ∧ e = .returned (.tuple #[.agg #[.int .i64 0, .int .i64 0, .slice none 0 0], .int .i64 5]) ∧ Below w.heap.size w w')
set_option maxHeartbeats 100000000 in
set_option maxRecDepth 100000 in
theorem rrun_graph (ns : List Nd) (ins : List Mx) (ao io : Option Addr) (cap ic : Nat) (w : World) (hn : Nodes w ao ns) (hI : Mats w io ins) (hs : ns.length * 48 ≤ 140737488351232) (hg : isGraphB ns = true) :
    Calls Try.prog 13 #[.slice ao ns.length cap, .slice io ins.length ic] w (RRunPost ns ins w) := by
  have HG : Hid (isGraphB ns = true) := hg
  have HN : Hid (Nodes w ao ns) := hn
  have HIN : Hid (Mats w io ins) := hI
  have hlen : 1 ≤ ns.length ∧ ns.length ≤ 100 := by
    have := hg
    simp only [isGraphB, Bool.and_eq_true, decide_eq_true_eq] at this
    exact this.1
  obtain ⟨hl1, hl2⟩ := hlen
  clear hn hI hg
  obtain ⟨i0, hi, hz0, hz1, hz2⟩ := zinfo_parts zInfo
  have HI : Hid (i0.zero = some (.int .i64 0) ∧ i0.size = 1 ∧ i0.bytes = 8 ∧ Try.prog.info? 3 = some i0) := ⟨hz0, hz1, hz2, hi⟩
  clear hi hz0 hz1 hz2
  obtain ⟨i1, hi, hz0, hz1, hz2⟩ := zinfo_parts infoMx
  have HJ : Hid (i1.zero = some (.agg #[.int .i64 0, .int .i64 0, .slice none 0 0]) ∧ i1.size = 3 ∧ i1.bytes = 40 ∧ Try.prog.info? 34 = some i1) := ⟨hz0, hz1, hz2, hi⟩
  clear hi hz0 hz1 hz2
  go_enter Try.func13, Try.ntmps13
  go_wp2_with fail
  refine (isGraph_any ns _ _ _ (HN.out.below (Bl.more (Bl.more (Bl.refl _) _) _)) hs).mono ?_
  rintro e w1 ⟨rfl, hb1⟩
  have HR0 : Hid (ResCell w1 w.heap.size) := ((ResCell.new w w.heap.size _ rfl).below (Bl.more (Bl.refl _) _)).below hb1
  have HR1 : Hid (ResCell w1 (w.heap.size + 1)) := (ResCell.new _ (w.heap.size + 1) _ (by simp)).below hb1
  have hbw : Below w.heap.size w w1 := Bl.trans (Bl.more (Bl.more (Bl.refl _) _) _) hb1
  clear hb1
  have hg' : isGraphB ns = true := HG.out
  go_wp2
  clear hg'
  go_loopw [8, 9] (fun v j wr => ∃ m : Nat, m ≤ ns.length ∧ j = .int .i64 m ∧ Hid (RowOf wr (w.heap.size + 2) (gives ns ins m) v) ∧ Hid (∀ q, (hq : q < ns.length) → q < m → inputOk ins ns[q] = true) ∧ Below w.heap.size w wr ∧ Hid (ResCell wr w.heap.size) ∧ Hid (ResCell wr (w.heap.size + 1))) (fun _ j _ => ns.length - (intOf j).toNat)
  case atStart => exact ⟨0, Nat.zero_le _, rfl, RowOf.new _ _, fun q _ h => absurd h (Nat.not_lt_zero _), hbw, HR0.out, HR1.out⟩
  case round =>
    clear HR0 HR1 hbw
    obtain ⟨m, hm, rfl, hG, hok, hbr, hr0, hr1⟩ := hrel
    by_cases hlt : m < ns.length
    · obtain ⟨vo, vc, hve⟩ := hG.out.shape
      rw [gives_len] at hve
      subst hve
      obtain ⟨b, off, rfl, hbs, c0, c1, c2, c3, c4, c5⟩ := (HN.out.below hbr) m hlt
      have HOK : Hid (nodeOk ns m ns[m] = true) := ok_at HG.out m hlt
      have HKN : Hid (knownP ns[m].op) := op_range HOK.out
      obtain ⟨⟨r1, r2⟩, k1, k2⟩ := sides HG.out m hlt
      have hpb : 0 ≤ ns[m].rows * ns[m].cols ∧ ns[m].rows * ns[m].cols ≤ 16 := by
        obtain h | h | h | h : ns[m].rows = 1 ∨ ns[m].rows = 2 ∨ ns[m].rows = 3 ∨ ns[m].rows = 4 := by omega
        all_goals rw [h]; omega
      obtain ⟨p1, p2⟩ := hpb
      have HGX : Hid (gives ns ins (m + 1) = gives ns ins m ++ [giveM ns[m] (inputOf ins ns[m]) (partA (gives ns ins m) ns[m]) (partB (gives ns ins m) ns[m])]) := by
        show gives ns ins (m + 1) = _
        rw [gives, nth_at ns m hlt]
      have hal := al1 hbs
      by_cases ho : ns[m].op = 1
      · obtain ⟨k0, k8⟩ := in_k HOK.out ho
        obtain ⟨kk, hkk⟩ := Int.eq_ofNat_of_zero_le k0
        have HO : Hid (ns[m].op = 1 ∧ ns[m].k = (kk : Int)) := ⟨ho, hkk⟩
        rw [ho] at c0
        rw [hkk] at c3
        clear ho hkk k0 k8
        by_cases hkl : kk < ins.length
        · obtain ⟨ib, ioff, rfl, hibs, e0, e1, no, nc, e2, hints⟩ := (HIN.out.below hbr) kk hkl
          have HINTS : Hid (Ints wr no ins[kk].nums) := hints
          have b1 : decide (ins.length ≤ kk) = false := decide_eq_false (by omega)
          have hli := al2 hibs
          clear hints
          have HIO : Hid (inputOk ins ns[m] = (ins[kk].rows == ns[m].rows && ins[kk].cols == ns[m].cols && (ins[kk].nums.length : Int) == ns[m].rows * ns[m].cols)) := inputOk_in HO.out.1 HO.out.2 hkl
          cases q1 : (ins[kk].rows != ns[m].rows)
          case true =>
            have HNO : Hid (inputsOk ns ins = false) := inputsOk_no hlt (by rw [HIO.out]; simp at q1; simp [q1])
            obtain ⟨⟨y0, y1, y2, y3⟩, yf⟩ := hr0.out
            obtain ⟨⟨z0, z1, z2, z3⟩, zf⟩ := hr1.out
            have aly := al2 y0
            have alz := al2 z0
            have alyf : ∀ o p x, ((wr.alloc o).alloc p).frozen? ⟨w.heap.size, x, none⟩ = false := fun o p x => ((Bl.more (Bl.more (Bl.refl wr) o) p).frozen (p := ⟨w.heap.size, x, none⟩) (by exact y0)).trans (yf x)
            go_wp2
            go_quiet ((fail))
            go_wp2
            exact bodyPost_ret (v := .tuple #[.agg #[.int .i64 0, .int .i64 0, .slice none 0 0], .int .i64 5]) (by simp [results, Try.results13, go_sem, aly, y1, y2, y3]) rfl (.inr ⟨HNO.out, rfl, (((Bl.drew (Bl.more (Bl.more hbr _) _) _).setCell (by exact Nat.le_refl _) _).setCell (by exact Nat.le_refl _) _).setCell (by exact Nat.le_refl _) _⟩)
          cases q2 : (ins[kk].cols != ns[m].cols)
          case true =>
            have HNO : Hid (inputsOk ns ins = false) := inputsOk_no hlt (by rw [HIO.out]; simp at q2; simp [q2])
            obtain ⟨⟨y0, y1, y2, y3⟩, yf⟩ := hr0.out
            obtain ⟨⟨z0, z1, z2, z3⟩, zf⟩ := hr1.out
            have aly := al2 y0
            have alz := al2 z0
            have alyf : ∀ o p x, ((wr.alloc o).alloc p).frozen? ⟨w.heap.size, x, none⟩ = false := fun o p x => ((Bl.more (Bl.more (Bl.refl wr) o) p).frozen (p := ⟨w.heap.size, x, none⟩) (by exact y0)).trans (yf x)
            go_wp2
            go_quiet ((fail))
            go_wp2
            exact bodyPost_ret (v := .tuple #[.agg #[.int .i64 0, .int .i64 0, .slice none 0 0], .int .i64 5]) (by simp [results, Try.results13, go_sem, aly, y1, y2, y3]) rfl (.inr ⟨HNO.out, rfl, (((Bl.drew (Bl.more (Bl.more hbr _) _) _).setCell (by exact Nat.le_refl _) _).setCell (by exact Nat.le_refl _) _).setCell (by exact Nat.le_refl _) _⟩)
          cases q3 : ((ins[kk].nums.length : Int) != ns[m].rows * ns[m].cols)
          case true =>
            have HNO : Hid (inputsOk ns ins = false) := inputsOk_no hlt (by rw [HIO.out]; simp at q3; simp [q3])
            obtain ⟨⟨y0, y1, y2, y3⟩, yf⟩ := hr0.out
            obtain ⟨⟨z0, z1, z2, z3⟩, zf⟩ := hr1.out
            have aly := al2 y0
            have alz := al2 z0
            have alyf : ∀ o p x, ((wr.alloc o).alloc p).frozen? ⟨w.heap.size, x, none⟩ = false := fun o p x => ((Bl.more (Bl.more (Bl.refl wr) o) p).frozen (p := ⟨w.heap.size, x, none⟩) (by exact y0)).trans (yf x)
            go_wp2
            go_quiet ((fail))
            go_wp2
            exact bodyPost_ret (v := .tuple #[.agg #[.int .i64 0, .int .i64 0, .slice none 0 0], .int .i64 5]) (by simp [results, Try.results13, go_sem, aly, y1, y2, y3]) rfl (.inr ⟨HNO.out, rfl, (((Bl.drew (Bl.more (Bl.more hbr _) _) _).setCell (by exact Nat.le_refl _) _).setCell (by exact Nat.le_refl _) _).setCell (by exact Nat.le_refl _) _⟩)
          have HIY : Hid (inputOk ins ns[m] = true) := by
            show inputOk ins ns[m] = true
            rw [HIO.out]
            simp at q1 q2 q3
            simp [q1, q2, q3]
          have HIO2 : Hid (inputOf ins ns[m] = ins[kk]) := by show inputOf ins ns[m] = ins[kk]; rw [inputOf, if_pos HO.out.1, HO.out.2, partM_at ins kk hkl]
          have HVAL : Hid (∀ r c : Int, valZ ns[m] (inputOf ins ns[m]) (partA (gives ns ins m) ns[m]) (partB (gives ns ins m) ns[m]) r c = numAt ins[kk].cols ins[kk].nums r c) := by
            show ∀ r c : Int, _ = _
            intro r c
            rw [valZ, if_pos HO.out.1, HIO2.out]
          have HFIT : Hid (∀ r c : Nat, (r : Int) < ns[m].rows → (c : Int) < ns[m].cols → FitOne ins[kk] r c) := fun r c h1 h2 => by
            have h := (node_fits HG.out hlt HIY.out (i := r) (k := c) ⟨by omega, h1⟩ ⟨by omega, h2⟩).1 HO.out.1
            rwa [HIO2.out] at h
          go_wp2
          go_quiet ((fail))
          go_wp2
          rename World => w2
          go_loopw [12] (fun j wk => ∃ r : Nat, (r : Int) ≤ ns[m].rows ∧ j = .int .i64 r ∧ Hid (∃ xo xc, LoopInv w2 wk ns[m] (numsTo (valZ ns[m] (inputOf ins ns[m]) (partA (gives ns ins m) ns[m]) (partB (gives ns ins m) ns[m])) ns[m].cols.toNat (r * ns[m].cols.toNat)) xo xc)) (fun j _ => (ns[m].rows - intOf j).toNat)
          case atStart =>
            have h := LoopInv.start w2 ns[m] 32 34
            rw [HO.out.1, HO.out.2] at h
            have e0 : (numsTo (valZ ns[m] (inputOf ins ns[m]) (partA (gives ns ins m) ns[m]) (partB (gives ns ins m) ns[m])) ns[m].cols.toNat (0 * ns[m].cols.toNat)) = [] := by simp [numsTo]
            exact ⟨0, by omega, rfl, ⟨none, 0, by rw [e0]; exact h.on (Bl.drew (Bl.refl _) _)⟩⟩
          case round =>
            obtain ⟨r, hr, rfl, hL⟩ := hrel
            obtain ⟨xo, xc, hLr⟩ := hL.out
            have HLR : Hid (LoopInv w2 wr ns[m] (numsTo (valZ ns[m] (inputOf ins ns[m]) (partA (gives ns ins m) ns[m]) (partB (gives ns ins m) ns[m])) ns[m].cols.toNat (r * ns[m].cols.toNat)) xo xc) := hLr
            clear hL hLr
            obtain ⟨nb, d0, d1, d2, d3, d4, d5, df⟩ := HLR.out.node
            by_cases hlr : (r : Int) < ns[m].rows
            · go_wp2
              go_loopw [13] (fun j wk => ∃ c : Nat, (c : Int) ≤ ns[m].cols ∧ j = .int .i64 c ∧ Hid (∃ xo xc, LoopInv w2 wk ns[m] (numsTo (valZ ns[m] (inputOf ins ns[m]) (partA (gives ns ins m) ns[m]) (partB (gives ns ins m) ns[m])) ns[m].cols.toNat (r * ns[m].cols.toNat + c)) xo xc)) (fun j _ => (ns[m].cols - intOf j).toNat)
              case atStart => exact ⟨0, by omega, rfl, ⟨xo, xc, HLR.out⟩⟩
              case round =>
                clear HLR d0 d1 d2 d3 d4 d5 df nb
                obtain ⟨c, hc, rfl, hL⟩ := hrel
                obtain ⟨xo, xc, hLr⟩ := hL.out
                clear hL
                by_cases hlc : (c : Int) < ns[m].cols
                · have HST : Hid ((numsTo (valZ ns[m] (inputOf ins ns[m]) (partA (gives ns ins m) ns[m]) (partB (gives ns ins m) ns[m])) ns[m].cols.toNat (r * ns[m].cols.toNat + (c + 1))) = (numsTo (valZ ns[m] (inputOf ins ns[m]) (partA (gives ns ins m) ns[m]) (partB (gives ns ins m) ns[m])) ns[m].cols.toNat (r * ns[m].cols.toNat + c)) ++ [valZ ns[m] (inputOf ins ns[m]) (partA (gives ns ins m) ns[m]) (partB (gives ns ins m) ns[m]) r c]) := numsTo_step (valZ ns[m] (inputOf ins ns[m]) (partA (gives ns ins m) ns[m]) (partB (gives ns ins m) ns[m])) ns[m].cols.toNat r c (by omega)
                  have hbd : (numsTo (valZ ns[m] (inputOf ins ns[m]) (partA (gives ns ins m) ns[m]) (partB (gives ns ins m) ns[m])) ns[m].cols.toNat (r * ns[m].cols.toNat + c)).length ≤ 20 := by
                    rw [numsTo_len]
                    have h := Nat.mul_le_mul (show r ≤ 4 by omega) (show ns[m].cols.toNat ≤ 4 by omega)
                    omega
                  generalize (numsTo (valZ ns[m] (inputOf ins ns[m]) (partA (gives ns ins m) ns[m]) (partB (gives ns ins m) ns[m])) ns[m].cols.toNat (r * ns[m].cols.toNat + c)) = l at *
                  have HLL : Hid (LoopInv w2 wr ns[m] l xo xc) := hLr
                  obtain ⟨nb, d0, d1, d2, d3, d4, d5, df⟩ := hLr.node
                  obtain ⟨_, u2, _, m0, m1, m2, _, mf⟩ := hLr.made
                  clear hLr
                  rw [HVAL.out] at HST
                  rw [HO.out.1] at d0
                  rw [HO.out.2] at d3

                  have f0 := (HLL.out.below.cell (by exact hibs)).trans e0
                  have f1 := (HLL.out.below.cell (by exact hibs)).trans e1
                  have f2 := (HLL.out.below.cell (by exact hibs)).trans e2
                  have HBD : Hid ((0 ≤ (r : Int) ∧ (r : Int) ≤ 3) ∧ (0 ≤ (c : Int) ∧ (c : Int) ≤ 3) ∧ (0 ≤ ins[kk].cols ∧ ins[kk].cols ≤ 4) ∧ (r : Int) * ins[kk].cols + c < ins[kk].nums.length) := (HFIT.out r c hlr hlc).bd
                  go_wp2_with fail
                  refine (rat_any ins[kk].rows ins[kk].cols no ins[kk].nums nc r c _ (HINTS.out.below HLL.out.below) HBD.out.1 HBD.out.2.1 HBD.out.2.2.1 HBD.out.2.2.2).mono ?_
                  rintro e w3 ⟨rfl, hb3⟩
                  have HL3 : Hid (LoopInv w2 w3 ns[m] l xo xc) := HLL.out.on hb3
                  obtain ⟨_, v2, _, _, _, m32, _, m38⟩ := HL3.out.made
                  have hal3 := al1 v2
                  clear hb3 f0 f1 f2 d0 d1 d2 d3 d4 d5 df m0 m1 m2 mf
                  go_wp2_with (at_builtin; refine wpList_append_all _ rfl _ _ 26 rfl (w2.heap.size + 1 + 1) 3 i0 _ 1 8 zUnderInts HI.out.2.2.2 HI.out.1 HI.out.2.1 HI.out.2.2.1 rfl (by decide) _ _ _ rfl (HL3.out.made.2.2.2.2.2.2.1.alloc _) ⟨w3.heap.size, 0, none⟩ 1 1 [.int .i64 (numAt ins[kk].cols ins[kk].nums r c)] rfl rfl ?c1 ?c2 (by decide) ?c3 ?c4 ?c5 ?_)
                  case c1 =>
                    intro j u hj
                    match j, hj with
                    | 0, hj => simp at hj; subst hj; simp [Addr.add, go_sem]
                    | j + 1, hj => simp at hj
                  case c2 => intro u hu; simp at hu; subst hu; rfl
                  case c3 => unfold maxLen; omega
                  case c4 => omega
                  case c5 => have := HL3.out.made.2.2.1; simp; omega
                  intro g9 cap9 w9 hown9 hgrow hlie hkeep hhold
                  obtain ⟨t0, tf⟩ := HL3.out.store hgrow
                  have HL9 := HL3.out.push hown9 hgrow
                  have HL9' : Hid (LoopInv w2 (w9.setCell ⟨w2.heap.size + 1, 2, none⟩ (.slice (some ⟨g9, 0, none⟩) (l.length + 1) cap9)) ns[m] (l ++ [(numAt ins[kk].cols ins[kk].nums r c)]) (some ⟨g9, 0, none⟩) cap9) := HL9
                  clear HL9 hown9 hgrow hlie hkeep hhold
                  go_wp2
                  exact ⟨⟨c + 1, by omega, by go_num, ⟨_, _, by rw [HST.out]; exact HL9'.out⟩⟩, by simp [intOf]; omega⟩
                · have hce : c = ns[m].cols.toNat := by omega
                  have hE : (numsTo (valZ ns[m] (inputOf ins ns[m]) (partA (gives ns ins m) ns[m]) (partB (gives ns ins m) ns[m])) ns[m].cols.toNat (r * ns[m].cols.toNat + c)) = (numsTo (valZ ns[m] (inputOf ins ns[m]) (partA (gives ns ins m) ns[m]) (partB (gives ns ins m) ns[m])) ns[m].cols.toNat ((r + 1) * ns[m].cols.toNat)) := by rw [hce, Nat.add_mul, Nat.one_mul]
                  rw [hE] at hLr
                  have HLL : Hid (LoopInv w2 wr ns[m] (numsTo (valZ ns[m] (inputOf ins ns[m]) (partA (gives ns ins m) ns[m]) (partB (gives ns ins m) ns[m])) ns[m].cols.toNat ((r + 1) * ns[m].cols.toNat)) xo xc) := hLr
                  obtain ⟨nb, d0, d1, d2, d3, d4, d5, df⟩ := hLr.node
                  clear hce hE hLr
                  go_wp2
                  exact ⟨⟨r + 1, by omega, by go_num, ⟨_, _, HLL.out⟩⟩, by simp [intOf]; omega⟩
            · have HRE : Hid (r = ns[m].rows.toNat) := by show r = _; omega
              obtain ⟨vs, hvl, hrow, hnums⟩ := hG.out.below HLR.out.below
              have HP0 : Hid (vs.length = (gives ns ins m).length ∧ (∀ j, j < (gives ns ins m).length → wr.ownsRow (w.heap.size + 2) 3 1 (vs.getD j .nilIface) (partM (gives ns ins m) j).nums.length ((partM (gives ns ins m) j).nums.map (Value.int .i64)))) := ⟨hvl, hnums⟩
              have HP1 : Hid (wr.ownsRow (w.heap.size + 2) 34 3 (.slice vo m vc) (gives ns ins m).length (matCells (gives ns ins m) vs)) := hrow
              have HROW : Hid (wr.ownsRow (w.heap.size + 2) 34 3 (.slice vo m vc) m (matCells (gives ns ins m) vs)) := by rw [gives_len] at hrow; exact hrow
              clear hvl hrow hnums
              obtain ⟨_, u2, u3, m0, m1, m2, _, mf⟩ := HLR.out.made
              have hsz : w.heap.size + 2 ≤ wr.heap.size := by
                have h1 := hr1.out.1.1
                have h2 := HLR.out.below.size
                omega
              have HBW : Hid (Below w.heap.size w wr) := Bl.trans hbr HLR.out.below
              go_wp2_with (at_builtin; refine wpList_append_own _ rfl _ _ 23 rfl (w.heap.size + 2) 34 i1 _ 3 40 underMxs HJ.out.2.2.2 HJ.out.1 HJ.out.2.1 HJ.out.2.2.1 rfl (by decide) _ _ _ rfl (HROW.out.alloc _) ⟨wr.heap.size, 0, none⟩ 1 1 [.int .i64 ns[m].rows, .int .i64 ns[m].cols, .slice xo (numsTo (valZ ns[m] (inputOf ins ns[m]) (partA (gives ns ins m) ns[m]) (partB (gives ns ins m) ns[m])) ns[m].cols.toNat (r * ns[m].cols.toNat)).length xc] rfl rfl ?d1 ?d2 ?d3 ?d4 ?d5 ?_)
              try (case d1 =>
                intro j u hj
                match j, hj with
                | 0, hj => simp at hj; subst hj; simp [Addr.add, go_sem]
                | 1, hj => simp at hj; subst hj; simp [Addr.add, go_sem]
                | 2, hj => simp at hj; subst hj; simp [Addr.add, go_sem]
                | j + 3, hj => simp at hj)
              case d2 => first | (intro u hu; simp at hu; rcases hu with rfl | rfl | rfl <;> rfl) | rfl | simp [Value.oneCell']
              case d3 => unfold maxLen; omega
              case d4 => omega
              case d5 => first | omega | (simp; omega)
              intro v' w9 hown9 hgrow _
              have HV : Hid (wr.ownsRow (w.heap.size + 2) 3 1 (.slice xo (numsTo (valZ ns[m] (inputOf ins ns[m]) (partA (gives ns ins m) ns[m]) (partB (gives ns ins m) ns[m])) ns[m].cols.toNat (r * ns[m].cols.toNat)).length xc) (giveM ns[m] (inputOf ins ns[m]) (partA (gives ns ins m) ns[m]) (partB (gives ns ins m) ns[m])).nums.length ((giveM ns[m] (inputOf ins ns[m]) (partA (gives ns ins m) ns[m]) (partB (gives ns ins m) ns[m])).nums.map (Value.int .i64))) := by
                have h := ownsRow_base HLR.out.made.2.2.2.2.2.2.1 (base' := w.heap.size + 2) (by have := hr1.out.1.1; omega)
                show wr.ownsRow _ _ _ _ (numsTo _ _ _).length ((numsTo _ _ _).map _)
                rw [← HRE.out]
                exact h
              have hR9 : RowOf w9 (w.heap.size + 2) (gives ns ins (m + 1)) v' := by
                rw [HGX.out]
                exact RowOf.push HP0.out.1 HP1.out HP0.out.2 HV.out (Bl.more (Bl.refl _) _) hgrow (by rw [gives_len]; exact hown9)
              have hB9 : Below w.heap.size w w9 := (HBW.out.alloc HBW.out.size _).grown hgrow (by simp; omega) (fun j e => by have := (HROW.out.lt j e).1; omega)
              have res9 : ∀ b, b < w.heap.size + 2 → ResCell wr b → ResCell w9 b := fun b hb h => h.ofBlock (Nat.le_trans (by simp) hgrow.size) ((hgrow.block b (by have := h.1.1; simp; omega) (fun e => by have := (HROW.out.lt b e.symm).1; omega)).trans (Below.heap_alloc _ _ _ h.1.1))
              have H9 : Hid (RowOf w9 (w.heap.size + 2) (gives ns ins (m + 1)) v' ∧ Below w.heap.size w w9 ∧ ResCell w9 w.heap.size ∧ ResCell w9 (w.heap.size + 1)) := ⟨hR9, hB9, res9 _ (by omega) (hr0.out.below HLR.out.below), res9 _ (by omega) (hr1.out.below HLR.out.below)⟩
              clear hown9 hgrow hR9 hB9 res9 m0 m1 m2 mf d0 d1 d2 d3 d4 d5 df
              go_wp2
              exact ⟨⟨m + 1, by omega, by go_num, H9.out.1, (fun q hq hqm => by
                by_cases e : q = m
                · subst e; exact HIY.out
                · exact hok.out q hq (by omega)), H9.out.2.1, H9.out.2.2.1, H9.out.2.2.2⟩, by simp [intOf]; omega⟩
        · have HNO : Hid (inputsOk ns ins = false) := inputsOk_no hlt (inputOk_out HO.out.1 HO.out.2 hkl)
          have b1 : decide (ins.length ≤ kk) = true := decide_eq_true (by omega)
          obtain ⟨⟨y0, y1, y2, y3⟩, yf⟩ := hr0.out
          obtain ⟨⟨z0, z1, z2, z3⟩, zf⟩ := hr1.out
          have aly := al2 y0
          have alz := al2 z0
          have alyf : ∀ o p x, ((wr.alloc o).alloc p).frozen? ⟨w.heap.size, x, none⟩ = false := fun o p x => ((Bl.more (Bl.more (Bl.refl wr) o) p).frozen (p := ⟨w.heap.size, x, none⟩) (by exact y0)).trans (yf x)
          go_wp2
          go_quiet ((fail))
          go_wp2
          exact bodyPost_ret (v := .tuple #[.agg #[.int .i64 0, .int .i64 0, .slice none 0 0], .int .i64 5]) (by simp [results, Try.results13, go_sem, aly, y1, y2, y3]) rfl (.inr ⟨HNO.out, rfl, (((Bl.drew (Bl.more (Bl.more hbr _) _) _).setCell (by exact Nat.le_refl _) _).setCell (by exact Nat.le_refl _) _).setCell (by exact Nat.le_refl _) _⟩)
      · have HIY : Hid (inputOk ins ns[m] = true) := by show inputOk ins ns[m] = true; simp [inputOk, ho]
        have HFIT : Hid (∀ r c : Nat, (r : Int) < ns[m].rows → (c : Int) < ns[m].cols → Fits ns[m] (inputOf ins ns[m]) (partA (gives ns ins m) ns[m]) (partB (gives ns ins m) ns[m]) r c) := fun r c h1 h2 => node_fits HG.out hlt HIY.out ⟨by omega, h1⟩ ⟨by omega, h2⟩
        have q0 : (ns[m].op == 1) = false := by simpa using ho
        have HO : Hid (¬ ns[m].op = 1) := ho
        have HPZ : Hid (partsZ ns[m].op = 0 ∨ partsZ ns[m].op = 1 ∨ partsZ ns[m].op = 2) := by
          show partsZ ns[m].op = 0 ∨ partsZ ns[m].op = 1 ∨ partsZ ns[m].op = 2
          unfold partsZ
          split
          · exact .inr (.inr rfl)
          · split
            · exact .inr (.inl rfl)
            · exact .inl rfl
        clear ho
        go_wp2
        go_quiet ((fail))
        go_wp2
        rename World => w2
        go_loopw [12] (fun j wk => ∃ r : Nat, (r : Int) ≤ ns[m].rows ∧ j = .int .i64 r ∧ Hid (∃ xo xc, LoopInv w2 wk ns[m] (numsTo (valZ ns[m] (inputOf ins ns[m]) (partA (gives ns ins m) ns[m]) (partB (gives ns ins m) ns[m])) ns[m].cols.toNat (r * ns[m].cols.toNat)) xo xc)) (fun j _ => (ns[m].rows - intOf j).toNat)
        case atStart =>
          have h := LoopInv.start w2 ns[m] 32 34
          have e0 : (numsTo (valZ ns[m] (inputOf ins ns[m]) (partA (gives ns ins m) ns[m]) (partB (gives ns ins m) ns[m])) ns[m].cols.toNat (0 * ns[m].cols.toNat)) = [] := by simp [numsTo]
          exact ⟨0, by omega, rfl, ⟨none, 0, by rw [e0]; exact h.on (Bl.drew (Bl.refl _) _)⟩⟩
        case round =>
          obtain ⟨r, hr, rfl, hL⟩ := hrel
          obtain ⟨xo, xc, hLr⟩ := hL.out
          have HLR : Hid (LoopInv w2 wr ns[m] (numsTo (valZ ns[m] (inputOf ins ns[m]) (partA (gives ns ins m) ns[m]) (partB (gives ns ins m) ns[m])) ns[m].cols.toNat (r * ns[m].cols.toNat)) xo xc) := hLr
          clear hL hLr
          obtain ⟨nb, d0, d1, d2, d3, d4, d5, df⟩ := HLR.out.node
          by_cases hlr : (r : Int) < ns[m].rows
          · go_wp2
            go_loopw [13] (fun j wk => ∃ c : Nat, (c : Int) ≤ ns[m].cols ∧ j = .int .i64 c ∧ Hid (∃ xo xc, LoopInv w2 wk ns[m] (numsTo (valZ ns[m] (inputOf ins ns[m]) (partA (gives ns ins m) ns[m]) (partB (gives ns ins m) ns[m])) ns[m].cols.toNat (r * ns[m].cols.toNat + c)) xo xc)) (fun j _ => (ns[m].cols - intOf j).toNat)
            case atStart => exact ⟨0, by omega, rfl, ⟨xo, xc, HLR.out⟩⟩
            case round =>
              clear HLR d0 d1 d2 d3 d4 d5 df nb
              obtain ⟨c, hc, rfl, hL⟩ := hrel
              obtain ⟨xo, xc, hLr⟩ := hL.out
              clear hL
              by_cases hlc : (c : Int) < ns[m].cols
              · have HST : Hid ((numsTo (valZ ns[m] (inputOf ins ns[m]) (partA (gives ns ins m) ns[m]) (partB (gives ns ins m) ns[m])) ns[m].cols.toNat (r * ns[m].cols.toNat + (c + 1))) = (numsTo (valZ ns[m] (inputOf ins ns[m]) (partA (gives ns ins m) ns[m]) (partB (gives ns ins m) ns[m])) ns[m].cols.toNat (r * ns[m].cols.toNat + c)) ++ [valZ ns[m] (inputOf ins ns[m]) (partA (gives ns ins m) ns[m]) (partB (gives ns ins m) ns[m]) r c]) := numsTo_step (valZ ns[m] (inputOf ins ns[m]) (partA (gives ns ins m) ns[m]) (partB (gives ns ins m) ns[m])) ns[m].cols.toNat r c (by omega)
                have hbd : (numsTo (valZ ns[m] (inputOf ins ns[m]) (partA (gives ns ins m) ns[m]) (partB (gives ns ins m) ns[m])) ns[m].cols.toNat (r * ns[m].cols.toNat + c)).length ≤ 20 := by
                  rw [numsTo_len]
                  have h := Nat.mul_le_mul (show r ≤ 4 by omega) (show ns[m].cols.toNat ≤ 4 by omega)
                  omega
                generalize (numsTo (valZ ns[m] (inputOf ins ns[m]) (partA (gives ns ins m) ns[m]) (partB (gives ns ins m) ns[m])) ns[m].cols.toNat (r * ns[m].cols.toNat + c)) = l at *
                have HLL : Hid (LoopInv w2 wr ns[m] l xo xc) := hLr
                obtain ⟨nb, d0, d1, d2, d3, d4, d5, df⟩ := hLr.node
                obtain ⟨_, u2, _, m0, m1, m2, _, mf⟩ := hLr.made
                clear hLr
                obtain ⟨⟨z0, z1, z2, z3⟩, _⟩ := hr1.out.below HLL.out.below
                have aln := al2 nb
                have aln1 := al1 nb
                have alz1 := al1 z0
                rcases HPZ.out with hp | hp | hp
                · have HAB : Hid (partA (gives ns ins m) ns[m] = zeroMx ∧ partB (gives ns ins m) ns[m] = zeroMx) := ⟨by simp [partA, hp], by simp [partB, hp]⟩
                  rw [HAB.out.1, HAB.out.2] at HST
                  have HF2 : Hid (Fits ns[m] (inputOf ins ns[m]) zeroMx zeroMx r c) := by
                    have h := HFIT.out r c hlr hlc
                    rwa [HAB.out.1, HAB.out.2] at h
                  go_wp2_with (go_at_call 25; refine (parts_any _ _).mono ?_; rintro e w' ⟨rfl, rfl⟩)
                  refine (rplace_all ns[m] (inputOf ins ns[m]) zeroMx zeroMx none none 0 0 r c _ HKN.out HO.out (fun h => absurd h (by omega)) (fun h => absurd h (by omega)) HF2.out).mono ?_
                  rintro e w3 ⟨rfl, hb3⟩
                  have HL3 : Hid (LoopInv w2 w3 ns[m] l xo xc) := HLL.out.on (Bl.trans (Bl.more (Bl.more (Bl.refl _) _) _) hb3)
                  obtain ⟨_, v2, _, _, _, m32, _, m38⟩ := HL3.out.made
                  have hal3 := al1 v2
                  clear hb3 d0 d1 d2 d3 d4 d5 df m0 m1 m2 mf aln aln1 alz1 z1 z2 z3
                  go_wp2_with (at_builtin; refine wpList_append_all _ rfl _ _ 26 rfl (w2.heap.size + 1 + 1) 3 i0 _ 1 8 zUnderInts HI.out.2.2.2 HI.out.1 HI.out.2.1 HI.out.2.2.1 rfl (by decide) _ _ _ rfl (HL3.out.made.2.2.2.2.2.2.1.alloc _) ⟨w3.heap.size, 0, none⟩ 1 1 [.int .i64 (valZ ns[m] (inputOf ins ns[m]) zeroMx zeroMx r c)] rfl rfl ?c1 ?c2 (by decide) ?c3 ?c4 ?c5 ?_)
                  case c1 =>
                    intro j u hj
                    match j, hj with
                    | 0, hj => simp at hj; subst hj; simp [Addr.add, go_sem]
                    | j + 1, hj => simp at hj
                  case c2 => intro u hu; simp at hu; subst hu; rfl
                  case c3 => unfold maxLen; omega
                  case c4 => omega
                  case c5 => have := HL3.out.made.2.2.1; simp; omega
                  intro g9 cap9 w9 hown9 hgrow hlie hkeep hhold
                  obtain ⟨t0, tf⟩ := HL3.out.store hgrow
                  have HL9 := HL3.out.push hown9 hgrow
                  have HL9' : Hid (LoopInv w2 (w9.setCell ⟨w2.heap.size + 1, 2, none⟩ (.slice (some ⟨g9, 0, none⟩) (l.length + 1) cap9)) ns[m] (l ++ [(valZ ns[m] (inputOf ins ns[m]) zeroMx zeroMx r c)]) (some ⟨g9, 0, none⟩) cap9) := HL9
                  clear HL9 hown9 hgrow hlie hkeep hhold
                  go_wp2
                  exact ⟨⟨c + 1, by omega, by go_num, ⟨_, _, by rw [HAB.out.1, HAB.out.2, HST.out]; exact HL9'.out⟩⟩, by simp [intOf]; omega⟩
                · have HAB : Hid (partA (gives ns ins m) ns[m] = (partM (gives ns ins m) ns[m].a) ∧ partB (gives ns ins m) ns[m] = zeroMx) := ⟨by simp [partA, hp], by simp [partB, hp]⟩
                  rw [HAB.out.1, HAB.out.2] at HST
                  have HF2 : Hid (Fits ns[m] (inputOf ins ns[m]) (partM (gives ns ins m) ns[m].a) zeroMx r c) := by
                    have h := HFIT.out r c hlr hlc
                    rwa [HAB.out.1, HAB.out.2] at h
                  obtain ⟨ha1, ha2⟩ := (ok_parts HOK.out).1 (by omega)
                  obtain ⟨gl, gcap, hve, hgl, aa, aac, g0, g1, g2, gi⟩ := (hG.out.below HLL.out.below).part ns[m].a.toNat (by rw [gives_len]; omega)
                  rw [gives_len] at hve
                  cases hve
                  rw [Int.toNat_of_nonneg ha1] at g0 g1 g2 gi
                  have HGA : Hid (Ints wr aa (partM (gives ns ins m) ns[m].a).nums) := gi
                  have alg := al2 hgl
                  clear gi
                  go_wp2_with (go_at_call 25; refine (parts_any _ _).mono ?_; rintro e w' ⟨rfl, rfl⟩)
                  refine (rplace_all ns[m] (inputOf ins ns[m]) (partM (gives ns ins m) ns[m].a) zeroMx aa none aac 0 r c _ HKN.out HO.out (fun _ => HGA.out.below (Bl.more (Bl.more (Bl.refl _) _) _)) (fun h => absurd h (by omega)) HF2.out).mono ?_
                  rintro e w3 ⟨rfl, hb3⟩
                  have HL3 : Hid (LoopInv w2 w3 ns[m] l xo xc) := HLL.out.on (Bl.trans (Bl.more (Bl.more (Bl.refl _) _) _) hb3)
                  obtain ⟨_, v2, _, _, _, m32, _, m38⟩ := HL3.out.made
                  have hal3 := al1 v2
                  clear hb3 d0 d1 d2 d3 d4 d5 df m0 m1 m2 mf aln aln1 alz1 z1 z2 z3 g0 g1 g2 alg
                  go_wp2_with (at_builtin; refine wpList_append_all _ rfl _ _ 26 rfl (w2.heap.size + 1 + 1) 3 i0 _ 1 8 zUnderInts HI.out.2.2.2 HI.out.1 HI.out.2.1 HI.out.2.2.1 rfl (by decide) _ _ _ rfl (HL3.out.made.2.2.2.2.2.2.1.alloc _) ⟨w3.heap.size, 0, none⟩ 1 1 [.int .i64 (valZ ns[m] (inputOf ins ns[m]) (partM (gives ns ins m) ns[m].a) zeroMx r c)] rfl rfl ?c1 ?c2 (by decide) ?c3 ?c4 ?c5 ?_)
                  case c1 =>
                    intro j u hj
                    match j, hj with
                    | 0, hj => simp at hj; subst hj; simp [Addr.add, go_sem]
                    | j + 1, hj => simp at hj
                  case c2 => intro u hu; simp at hu; subst hu; rfl
                  case c3 => unfold maxLen; omega
                  case c4 => omega
                  case c5 => have := HL3.out.made.2.2.1; simp; omega
                  intro g9 cap9 w9 hown9 hgrow hlie hkeep hhold
                  obtain ⟨t0, tf⟩ := HL3.out.store hgrow
                  have HL9 := HL3.out.push hown9 hgrow
                  have HL9' : Hid (LoopInv w2 (w9.setCell ⟨w2.heap.size + 1, 2, none⟩ (.slice (some ⟨g9, 0, none⟩) (l.length + 1) cap9)) ns[m] (l ++ [(valZ ns[m] (inputOf ins ns[m]) (partM (gives ns ins m) ns[m].a) zeroMx r c)]) (some ⟨g9, 0, none⟩) cap9) := HL9
                  clear HL9 hown9 hgrow hlie hkeep hhold
                  go_wp2
                  exact ⟨⟨c + 1, by omega, by go_num, ⟨_, _, by rw [HAB.out.1, HAB.out.2, HST.out]; exact HL9'.out⟩⟩, by simp [intOf]; omega⟩
                · have HAB : Hid (partA (gives ns ins m) ns[m] = (partM (gives ns ins m) ns[m].a) ∧ partB (gives ns ins m) ns[m] = (partM (gives ns ins m) ns[m].b)) := ⟨by simp [partA, hp], by simp [partB, hp]⟩
                  rw [HAB.out.1, HAB.out.2] at HST
                  have HF2 : Hid (Fits ns[m] (inputOf ins ns[m]) (partM (gives ns ins m) ns[m].a) (partM (gives ns ins m) ns[m].b) r c) := by
                    have h := HFIT.out r c hlr hlc
                    rwa [HAB.out.1, HAB.out.2] at h
                  obtain ⟨ha1, ha2⟩ := (ok_parts HOK.out).1 (by omega)
                  obtain ⟨gl, gcap, hve, hgl, aa, aac, g0, g1, g2, gi⟩ := (hG.out.below HLL.out.below).part ns[m].a.toNat (by rw [gives_len]; omega)
                  rw [gives_len] at hve
                  cases hve
                  rw [Int.toNat_of_nonneg ha1] at g0 g1 g2 gi
                  have HGA : Hid (Ints wr aa (partM (gives ns ins m) ns[m].a).nums) := gi
                  have alg := al2 hgl
                  clear gi
                  obtain ⟨hb1, hb2⟩ := (ok_parts HOK.out).2.1 (by omega)
                  obtain ⟨gl', gcap', hve, hgl', bb, bbc, k0, k1, k2, gi⟩ := (hG.out.below HLL.out.below).part ns[m].b.toNat (by rw [gives_len]; omega)
                  rw [gives_len] at hve
                  cases hve
                  rw [Int.toNat_of_nonneg hb1] at k0 k1 k2 gi
                  have HGB : Hid (Ints wr bb (partM (gives ns ins m) ns[m].b).nums) := gi
                  clear gi hgl'
                  go_wp2_with (go_at_call 25; refine (parts_any _ _).mono ?_; rintro e w' ⟨rfl, rfl⟩)
                  refine (rplace_all ns[m] (inputOf ins ns[m]) (partM (gives ns ins m) ns[m].a) (partM (gives ns ins m) ns[m].b) aa bb aac bbc r c _ HKN.out HO.out (fun _ => HGA.out.below (Bl.more (Bl.more (Bl.refl _) _) _)) (fun _ => HGB.out.below (Bl.more (Bl.more (Bl.refl _) _) _)) HF2.out).mono ?_
                  rintro e w3 ⟨rfl, hb3⟩
                  have HL3 : Hid (LoopInv w2 w3 ns[m] l xo xc) := HLL.out.on (Bl.trans (Bl.more (Bl.more (Bl.refl _) _) _) hb3)
                  obtain ⟨_, v2, _, _, _, m32, _, m38⟩ := HL3.out.made
                  have hal3 := al1 v2
                  clear hb3 d0 d1 d2 d3 d4 d5 df m0 m1 m2 mf aln aln1 alz1 z1 z2 z3 g0 g1 g2 alg k0 k1 k2
                  go_wp2_with (at_builtin; refine wpList_append_all _ rfl _ _ 26 rfl (w2.heap.size + 1 + 1) 3 i0 _ 1 8 zUnderInts HI.out.2.2.2 HI.out.1 HI.out.2.1 HI.out.2.2.1 rfl (by decide) _ _ _ rfl (HL3.out.made.2.2.2.2.2.2.1.alloc _) ⟨w3.heap.size, 0, none⟩ 1 1 [.int .i64 (valZ ns[m] (inputOf ins ns[m]) (partM (gives ns ins m) ns[m].a) (partM (gives ns ins m) ns[m].b) r c)] rfl rfl ?c1 ?c2 (by decide) ?c3 ?c4 ?c5 ?_)
                  case c1 =>
                    intro j u hj
                    match j, hj with
                    | 0, hj => simp at hj; subst hj; simp [Addr.add, go_sem]
                    | j + 1, hj => simp at hj
                  case c2 => intro u hu; simp at hu; subst hu; rfl
                  case c3 => unfold maxLen; omega
                  case c4 => omega
                  case c5 => have := HL3.out.made.2.2.1; simp; omega
                  intro g9 cap9 w9 hown9 hgrow hlie hkeep hhold
                  obtain ⟨t0, tf⟩ := HL3.out.store hgrow
                  have HL9 := HL3.out.push hown9 hgrow
                  have HL9' : Hid (LoopInv w2 (w9.setCell ⟨w2.heap.size + 1, 2, none⟩ (.slice (some ⟨g9, 0, none⟩) (l.length + 1) cap9)) ns[m] (l ++ [(valZ ns[m] (inputOf ins ns[m]) (partM (gives ns ins m) ns[m].a) (partM (gives ns ins m) ns[m].b) r c)]) (some ⟨g9, 0, none⟩) cap9) := HL9
                  clear HL9 hown9 hgrow hlie hkeep hhold
                  go_wp2
                  exact ⟨⟨c + 1, by omega, by go_num, ⟨_, _, by rw [HAB.out.1, HAB.out.2, HST.out]; exact HL9'.out⟩⟩, by simp [intOf]; omega⟩
              · have hce : c = ns[m].cols.toNat := by omega
                have hE : (numsTo (valZ ns[m] (inputOf ins ns[m]) (partA (gives ns ins m) ns[m]) (partB (gives ns ins m) ns[m])) ns[m].cols.toNat (r * ns[m].cols.toNat + c)) = (numsTo (valZ ns[m] (inputOf ins ns[m]) (partA (gives ns ins m) ns[m]) (partB (gives ns ins m) ns[m])) ns[m].cols.toNat ((r + 1) * ns[m].cols.toNat)) := by rw [hce, Nat.add_mul, Nat.one_mul]
                rw [hE] at hLr
                have HLL : Hid (LoopInv w2 wr ns[m] (numsTo (valZ ns[m] (inputOf ins ns[m]) (partA (gives ns ins m) ns[m]) (partB (gives ns ins m) ns[m])) ns[m].cols.toNat ((r + 1) * ns[m].cols.toNat)) xo xc) := hLr
                obtain ⟨nb, d0, d1, d2, d3, d4, d5, df⟩ := hLr.node
                clear hce hE hLr
                go_wp2
                exact ⟨⟨r + 1, by omega, by go_num, ⟨_, _, HLL.out⟩⟩, by simp [intOf]; omega⟩
          · have HRE : Hid (r = ns[m].rows.toNat) := by show r = _; omega
            obtain ⟨vs, hvl, hrow, hnums⟩ := hG.out.below HLR.out.below
            have HP0 : Hid (vs.length = (gives ns ins m).length ∧ (∀ j, j < (gives ns ins m).length → wr.ownsRow (w.heap.size + 2) 3 1 (vs.getD j .nilIface) (partM (gives ns ins m) j).nums.length ((partM (gives ns ins m) j).nums.map (Value.int .i64)))) := ⟨hvl, hnums⟩
            have HP1 : Hid (wr.ownsRow (w.heap.size + 2) 34 3 (.slice vo m vc) (gives ns ins m).length (matCells (gives ns ins m) vs)) := hrow
            have HROW : Hid (wr.ownsRow (w.heap.size + 2) 34 3 (.slice vo m vc) m (matCells (gives ns ins m) vs)) := by rw [gives_len] at hrow; exact hrow
            clear hvl hrow hnums
            obtain ⟨_, u2, u3, m0, m1, m2, _, mf⟩ := HLR.out.made
            have hsz : w.heap.size + 2 ≤ wr.heap.size := by
              have h1 := hr1.out.1.1
              have h2 := HLR.out.below.size
              omega
            have HBW : Hid (Below w.heap.size w wr) := Bl.trans hbr HLR.out.below
            go_wp2_with (at_builtin; refine wpList_append_own _ rfl _ _ 23 rfl (w.heap.size + 2) 34 i1 _ 3 40 underMxs HJ.out.2.2.2 HJ.out.1 HJ.out.2.1 HJ.out.2.2.1 rfl (by decide) _ _ _ rfl (HROW.out.alloc _) ⟨wr.heap.size, 0, none⟩ 1 1 [.int .i64 ns[m].rows, .int .i64 ns[m].cols, .slice xo (numsTo (valZ ns[m] (inputOf ins ns[m]) (partA (gives ns ins m) ns[m]) (partB (gives ns ins m) ns[m])) ns[m].cols.toNat (r * ns[m].cols.toNat)).length xc] rfl rfl ?e1 ?e2 ?e3 ?e4 ?e5 ?_)
            try (case e1 =>
              intro j u hj
              match j, hj with
              | 0, hj => simp at hj; subst hj; simp [Addr.add, go_sem]
              | 1, hj => simp at hj; subst hj; simp [Addr.add, go_sem]
              | 2, hj => simp at hj; subst hj; simp [Addr.add, go_sem]
              | j + 3, hj => simp at hj)
            case e2 => first | (intro u hu; simp at hu; rcases hu with rfl | rfl | rfl <;> rfl) | rfl | simp [Value.oneCell']
            case e3 => unfold maxLen; omega
            case e4 => omega
            case e5 => first | omega | (simp; omega)
            intro v' w9 hown9 hgrow _
            have HV : Hid (wr.ownsRow (w.heap.size + 2) 3 1 (.slice xo (numsTo (valZ ns[m] (inputOf ins ns[m]) (partA (gives ns ins m) ns[m]) (partB (gives ns ins m) ns[m])) ns[m].cols.toNat (r * ns[m].cols.toNat)).length xc) (giveM ns[m] (inputOf ins ns[m]) (partA (gives ns ins m) ns[m]) (partB (gives ns ins m) ns[m])).nums.length ((giveM ns[m] (inputOf ins ns[m]) (partA (gives ns ins m) ns[m]) (partB (gives ns ins m) ns[m])).nums.map (Value.int .i64))) := by
              have h := ownsRow_base HLR.out.made.2.2.2.2.2.2.1 (base' := w.heap.size + 2) (by have := hr1.out.1.1; omega)
              show wr.ownsRow _ _ _ _ (numsTo _ _ _).length ((numsTo _ _ _).map _)
              rw [← HRE.out]
              exact h
            have hR9 : RowOf w9 (w.heap.size + 2) (gives ns ins (m + 1)) v' := by
              rw [HGX.out]
              exact RowOf.push HP0.out.1 HP1.out HP0.out.2 HV.out (Bl.more (Bl.refl _) _) hgrow (by rw [gives_len]; exact hown9)
            have hB9 : Below w.heap.size w w9 := (HBW.out.alloc HBW.out.size _).grown hgrow (by simp; omega) (fun j e => by have := (HROW.out.lt j e).1; omega)
            have res9 : ∀ b, b < w.heap.size + 2 → ResCell wr b → ResCell w9 b := fun b hb h => h.ofBlock (Nat.le_trans (by simp) hgrow.size) ((hgrow.block b (by have := h.1.1; simp; omega) (fun e => by have := (HROW.out.lt b e.symm).1; omega)).trans (Below.heap_alloc _ _ _ h.1.1))
            have H9 : Hid (RowOf w9 (w.heap.size + 2) (gives ns ins (m + 1)) v' ∧ Below w.heap.size w w9 ∧ ResCell w9 w.heap.size ∧ ResCell w9 (w.heap.size + 1)) := ⟨hR9, hB9, res9 _ (by omega) (hr0.out.below HLR.out.below), res9 _ (by omega) (hr1.out.below HLR.out.below)⟩
            clear hown9 hgrow hR9 hB9 res9 m0 m1 m2 mf d0 d1 d2 d3 d4 d5 df
            go_wp2
            exact ⟨⟨m + 1, by omega, by go_num, H9.out.1, (fun q hq hqm => by
              by_cases e : q = m
              · subst e; exact HIY.out
              · exact hok.out q hq (by omega)), H9.out.2.1, H9.out.2.2.1, H9.out.2.2.2⟩, by simp [intOf]; omega⟩
    · have hme : m = ns.length := by omega
      subst hme
      clear hm hlt
      have HYES : Hid (inputsOk ns ins = true) := inputsOk_yes (fun j hj => hok.out j hj hj)
      obtain ⟨gl, gcap, hve, hgl, aa, aac, g0, g1, g2, hown⟩ := hG.out.partOwn (ns.length - 1) (by rw [gives_len]; omega)
      rw [gives_len] at hve
      subst hve
      have HOWN : Hid (wr.ownsRow (w.heap.size + 2) 3 1 (.slice aa (partM (gives ns ins ns.length) (ns.length - 1 : Nat)).nums.length aac) (partM (gives ns ins ns.length) (ns.length - 1 : Nat)).nums.length ((partM (gives ns ins ns.length) (ns.length - 1 : Nat)).nums.map (Value.int .i64))) := hown
      clear hown
      have hx1 : (0 : Int) ≤ (ns.length : Int) - 1 := by omega
      have hx2 : (ns.length : Int) - 1 < ns.length := by omega
      have ht : ((ns.length : Int) - 1).toNat = ns.length - 1 := by omega
      obtain ⟨⟨y0, y1, y2, y3⟩, yf⟩ := hr0.out
      go_wp2
      refine bodyPost_ret (v := .tuple #[.agg #[.int .i64 (partM (gives ns ins ns.length) (ns.length - 1 : Nat)).rows, .int .i64 (partM (gives ns ins ns.length) (ns.length - 1 : Nat)).cols, .slice aa (partM (gives ns ins ns.length) (ns.length - 1 : Nat)).nums.length aac], .int .i64 0]) (by simp [results, Try.results13, go_sem, y1, y2, y3]) rfl (.inl ⟨HYES.out, aa, aac, rfl, ?_, ?_⟩)
      · obtain ⟨ao', cap', e, h⟩ := ints_of (ownsRow_setCell_below (ownsRow_setCell_below (ownsRow_setCell_below HOWN.out (a := ⟨w.heap.size, 0, none⟩) (by dsimp only; omega) (.int .i64 (partM (gives ns ins ns.length) (ns.length - 1 : Nat)).rows)) (a := ⟨w.heap.size, 1, none⟩) (by dsimp only; omega) (.int .i64 (partM (gives ns ins ns.length) (ns.length - 1 : Nat)).cols)) (a := ⟨w.heap.size, 2, none⟩) (by dsimp only; omega) (.slice aa (partM (gives ns ins ns.length) (ns.length - 1 : Nat)).nums.length aac))
        cases e
        exact h
      · exact ((hbr.setCell (by exact Nat.le_refl _) _).setCell (by exact Nat.le_refl _) _).setCell (by exact Nat.le_refl _) _
end Go.Proofs.Ytanlmfcllebopaa
