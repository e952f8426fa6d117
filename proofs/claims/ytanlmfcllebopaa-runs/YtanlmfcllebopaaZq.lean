/- (*thriftlaw.Book).run, walked. -/
import Derived.Test.YtanlmfcllebopaaZp
import Derived.Test.YtanlmfcllebopaaZh
import Derived.Test.YtanlmfcllebopaaZn
import Derived.Test.YtanlmfcllebopaaZj
import Derived.Test.YtanlmfcllebopaaWf
namespace Go.Proofs.Ytanlmfcllebopaa
open Go.RowKit

/-- a copy of a list in the making: its matrix in the block behind w2 -/
structure CopyInv (w2 wk : World) (r c : Int) (l : List Int) (xo : Option Addr) (xc : Nat) : Prop where
  made : Made wk (w2.heap.size + 1) w2.heap.size r c (.slice xo l.length xc) l
  below : Below w2.heap.size w2 wk
theorem CopyInv.on {w2 wk w3 : World} {r c : Int} {l : List Int} {xo : Option Addr} {xc : Nat} (h : CopyInv w2 wk r c l xo xc) (hb : Below wk.heap.size wk w3) : CopyInv w2 w3 r c l xo xc :=
  ⟨h.made.below hb, Bl.trans h.below hb⟩
theorem CopyInv.start (w2 : World) (r c : Int) (t : TypeId) : CopyInv w2 (w2.alloc (.cells #[.int .i64 r, .int .i64 c, .slice none 0 0] t)) r c [] none 0 :=
  ⟨Made.new _ r c _ _ rfl, Bl.more (Bl.refl _) _⟩
theorem CopyInv.store {w2 w3 w9 : World} {r c : Int} {l : List Int} {xo : Option Addr} {xc : Nat} {o : Obj} (h : CopyInv w2 w3 r c l xo xc) (hgrow : (w3.alloc o).grownBy w9 (Value.slice xo l.length xc).ownBlock) : w9.cell? ⟨w2.heap.size, 2, none⟩ = some (.slice xo l.length xc) ∧ ∀ j, w9.frozen? ⟨w2.heap.size, j, none⟩ = false := by
  obtain ⟨h1, h2, h3, h4, h5, h6, h7, h8⟩ := h.made
  have hne : some w2.heap.size ≠ (Value.slice xo l.length xc).ownBlock := fun e => by have := h7.lt _ e.symm; omega
  exact ⟨(World.cell?_of_block (a := ⟨w2.heap.size, 2, none⟩) (hgrow.block _ (by simp; omega) hne)).trans (((Bl.more (Bl.refl w3) o).cell (by exact h2)).trans h6), fun j => (World.frozen?_of_block (a := ⟨w2.heap.size, j, none⟩) (hgrow.block _ (by simp; omega) hne)).trans (((Bl.more (Bl.refl w3) o).frozen (by exact h2)).trans (h8 j))⟩
theorem CopyInv.push {w2 w3 w9 : World} {r c : Int} {l : List Int} {xo : Option Addr} {xc g9 cap9 : Nat} {o : Obj} {y : Int} (h : CopyInv w2 w3 r c l xo xc) (hown : w9.ownsRow (w2.heap.size + 1) 3 1 (.slice (some ⟨g9, 0, none⟩) (l.length + 1) cap9) (l.length + 1) (l.map (Value.int .i64) ++ [.int .i64 y]))
    (hgrow : (w3.alloc o).grownBy w9 (Value.slice xo l.length xc).ownBlock) : CopyInv w2 (w9.setCell ⟨w2.heap.size, 2, none⟩ (.slice (some ⟨g9, 0, none⟩) (l.length + 1) cap9)) r c (l ++ [y]) (some ⟨g9, 0, none⟩) cap9 := by
  have P := made_push h.made hown rfl hgrow
  have Q := keptBut_pushAt (bb := w2.heap.size) (off := 2) (KeptBut.of (Bl.refl w3)) hgrow (v' := .slice (some ⟨g9, 0, none⟩) (l.length + 1) cap9)
  have hrow := h.made.2.2.2.2.2.2.1.lt
  have hz := h.made.2.2.1
  refine ⟨by rw [List.length_append]; exact P, h.below.trans (Q.below (by omega) (fun k e => by have := hrow k e; omega) (by omega))⟩
theorem RowOf.mats {w : World} {base : Nat} {ms : List Mx} {v : Value} (h : RowOf w base ms v) : ∃ ao cap, v = .slice ao ms.length cap ∧ Mats w ao ms := by
  obtain ⟨ao, cap, rfl⟩ := h.shape
  refine ⟨ao, cap, rfl, fun i hi => ?_⟩
  obtain ⟨gl, cap', e, hgl, no, nc, c0, c1, c2, hi'⟩ := h.part i hi
  cases e
  rw [partM_at ms i hi] at c0 c1 c2 hi'
  exact ⟨gl, 0, rfl, hgl, by simpa using c0, by simpa using c1, no, nc, by simpa using c2, hi'⟩
theorem RowOf.keeps {w w' : World} {base : Nat} {ms : List Mx} {v : Value} {S : Nat → Prop} (h : RowOf w base ms v) (hk : Keeps S w w') (hs : ∀ k, base ≤ k → k < w.heap.size → ¬ S k) : RowOf w' base ms v := by
  obtain ⟨vs, h1, h3, h4⟩ := h
  exact ⟨vs, h1, ownsRow_keeps h3 hk fun g e => hs g (h3.lt g e).1 (h3.lt g e).2, fun j hj => ownsRow_keeps (h4 j hj) hk fun g e => hs g ((h4 j hj).lt g e).1 ((h4 j hj).lt g e).2⟩
theorem last_small {ns : List Nd} {ins : List Mx} (hg : isGraphB ns = true) : (partM (gives ns ins ns.length) (ns.length - 1 : Nat)).nums.length ≤ 1000 := by
  have hl : 1 ≤ ns.length := by
    have := hg
    simp only [isGraphB, Bool.and_eq_true, decide_eq_true_eq] at this
    exact this.1.1
  obtain ⟨⟨⟨r1, r2⟩, ⟨c1, c2⟩, e⟩, _, _⟩ := partM_ok (ins := ins) hg (Nat.le_refl _) (x := ((ns.length - 1 : Nat) : Int)) ⟨by omega, by omega⟩
  have h : (partM (gives ns ins ns.length) (ns.length - 1 : Nat)).rows * (partM (gives ns ins ns.length) (ns.length - 1 : Nat)).cols ≤ 16 := by
    obtain h | h | h | h : (partM (gives ns ins ns.length) (ns.length - 1 : Nat)).rows = 1 ∨ (partM (gives ns ins ns.length) (ns.length - 1 : Nat)).rows = 2 ∨ (partM (gives ns ins ns.length) (ns.length - 1 : Nat)).rows = 3 ∨ (partM (gives ns ins ns.length) (ns.length - 1 : Nat)).rows = 4 := by omega
    all_goals rw [h]; omega
  omega
theorem after_owns {w w1 w4 w5 W8 w9 : World} {bb base : Nat} {vi vm xv lv : Value} {I : List (Value × Int)} {next : Int} {ins : List Mx} (hB : IBook w bb base vi vm I next) (h01 : w.heap.size ≤ w1.heap.size) (h04 : Below w.heap.size w w4) (h48 : Below w4.heap.size w4 W8) (h45 : w4.heap.size ≤ w5.heap.size)
    (hx : ∀ g, xv.ownBlock = some g → w4.heap.size ≤ g ∧ g < w5.heap.size) (hK : Keeps (fun k => BookOwn bb vi vm k ∨ xv.ownBlock = some k) W8 w9) (hR : RowOf w4 w1.heap.size ins lv) :
    Keeps (BookOwn bb vi vm) w w9 ∧ RowOf w9 w1.heap.size ins lv ∧ ∀ b, w5.heap.size ≤ b → b < W8.heap.size → ∀ o, w9.cell? ⟨b, o, none⟩ = W8.cell? ⟨b, o, none⟩ := by
  have h0 := h04.size
  refine ⟨(Keeps.of_below (Bl.trans h04 h48)).after hK fun i hi e => ?_, hR.keeps ((Keeps.of_below h48).after hK fun _ _ e => e) fun k h1 h2 e => ?_, fun b h1 h2 o => hK.cell (by exact h2) fun e => ?_⟩
  · rcases e with e | e
    · exact e
    · have := (hx i e).1; omega
  · rcases e with e | e
    · have := (hB.own_lt k e).2; omega
    · have := (hx k e).1; omega
  · rcases e with e | e
    · have := (hB.own_lt b e).2; omega
    · have := (hx b e).2; omega
set_option maxHeartbeats 100000000 in
set_option maxRecDepth 100000 in
theorem brun_any (ns : List Nd) (ins : List Mx) (ao io : Option Addr) (ca ci : Nat) (w : World) (bb base : Nat) (vi vm : Value) (I : List (Value × Int)) (next : Int) (hB : IBook w bb base vi vm I next) (hbase : base ≤ w.heap.size) (hI : I.length ≤ 100000000000) (hx1 : -1000000000000 ≤ next) (hx2 : next ≤ 0)
    (hn : Nodes w ao ns) (hIn : ∀ w', Keeps (BookOwn bb vi vm) w w' → Mats w' io ins) (hs : ns.length * 48 ≤ 140737488351232) (hil : ins.length * 40 ≤ 140737488351232) (hnl : ∀ j, (h : j < ins.length) → ins[j].nums.length * 8 ≤ 140737488351232) :
    Calls Try.prog 6 #[.pointer (some ⟨bb, 0, none⟩), .slice ao ns.length ca, .slice io ins.length ci] w (BookPost w bb base I.length next) := by
  have HN : Hid (Nodes w ao ns) := hn
  have HIN : Hid (∀ w', Keeps (BookOwn bb vi vm) w w' → Mats w' io ins) := hIn
  have HM0 : Hid (Mats w io ins) := hIn w (Keeps.refl _ _)
  have HNL : Hid (∀ j, (h : j < ins.length) → ins[j].nums.length * 8 ≤ 140737488351232) := hnl
  have HB : Hid (IBook w bb base vi vm I next) := hB
  have HS : Hid (ns.length * 48 ≤ 140737488351232) := hs
  clear hn hIn hnl hB hs
  obtain ⟨i0, hi, hz0, hz1, hz2⟩ := zinfo_parts zInfo
  have HI : Hid (i0.zero = some (.int .i64 0) ∧ i0.size = 1 ∧ i0.bytes = 8 ∧ Try.prog.info? 3 = some i0) := ⟨hz0, hz1, hz2, hi⟩
  clear hi hz0 hz1 hz2
  obtain ⟨i1, hi, hz0, hz1, hz2⟩ := zinfo_parts infoMx
  have HJ : Hid (i1.zero = some (.agg #[.int .i64 0, .int .i64 0, .slice none 0 0]) ∧ i1.size = 3 ∧ i1.bytes = 40 ∧ Try.prog.info? 34 = some i1) := ⟨hz0, hz1, hz2, hi⟩
  clear hi hz0 hz1 hz2
  go_enter Try.func6, Try.ntmps6
  go_wp2_with fail
  refine (copied_any ns ao ca _ HN.out HS.out).mono ?_
  rintro e w1 ⟨⟨go, gcap, rfl, hN1⟩, hb1⟩
  have HN1 : Hid (Nodes w1 go ns) := hN1
  have HB1 : Hid (Below w.heap.size w w1) := hb1
  clear hN1 hb1
  go_wp2
  go_loopw [8, 9] (fun v j wr => ∃ k : Nat, k ≤ ins.length ∧ j = .int .i64 k ∧ Hid (RowOf wr w1.heap.size (ins.take k) v) ∧ Below w1.heap.size w1 wr) (fun _ j _ => ins.length - (intOf j).toNat)
  case atStart => exact ⟨0, Nat.zero_le _, rfl, RowOf.new _ _, Bl.refl _⟩
  case round =>
    obtain ⟨k, hk, rfl, hR, hbr⟩ := hrel
    obtain ⟨vo, vc, hve⟩ := hR.out.shape
    have htl : (ins.take k).length = k := by rw [List.length_take]; omega
    rw [htl] at hve
    subst hve
    by_cases hlt : k < ins.length
    · obtain ⟨b, off, rfl, hbs, e0, e1, no, nc, e2, hints⟩ := (HM0.out.below (Bl.trans HB1.out hbr)) k hlt
      have HINTS : Hid (Ints wr no ins[k].nums) := hints
      have hnk := HNL.out k hlt
      have hal := al1 hbs
      clear hints
      rename World => w2
      go_wp2
      go_loopw [11] (fun j wk => ∃ q : Nat, q ≤ ins[k].nums.length ∧ j = .int .i64 q ∧ Hid (∃ xo xc, CopyInv w2 wk ins[k].rows ins[k].cols (ins[k].nums.take q) xo xc)) (fun j _ => ins[k].nums.length - (intOf j).toNat)
      case atStart => exact ⟨0, Nat.zero_le _, rfl, ⟨none, 0, CopyInv.start w2 _ _ _⟩⟩
      case round =>
        obtain ⟨q, hq, rfl, hC⟩ := hrel
        obtain ⟨xo, xc, hCC⟩ := hC.out
        clear hC
        have f2 := (hCC.below.cell (by exact hbs)).trans e2
        have hbs' := Nat.lt_of_lt_of_le hbs hCC.below.size
        by_cases hql : q < ins[k].nums.length
        · have HLQ : Hid ((ins[k].nums.take q).length = q) := by show (ins[k].nums.take q).length = q; rw [List.length_take]; omega
          have hlq : (ins[k].nums.take q).length < ins[k].nums.length := by rw [HLQ.out]; exact hql
          have HST : Hid (ins[k].nums.take (q + 1) = ins[k].nums.take q ++ [ins[k].nums[q]]) := List.take_succ_eq_append_getElem hql
          generalize ins[k].nums.take q = l at *
          have HCC : Hid (CopyInv w2 wr ins[k].rows ins[k].cols l xo xc) := hCC
          obtain ⟨_, u2, u3, m0, m1, m2, mo, mf⟩ := hCC.made
          have HO : Hid (wr.ownsRow (w2.heap.size + 1) 3 1 (.slice xo l.length xc) l.length (l.map (Value.int .i64))) := mo
          obtain ⟨ib, ioff, rfl, hib, hcn⟩ := HINTS.out q hql
          have f3 := (hCC.below.cell (by exact hib)).trans hcn
          clear hCC mo hcn
          go_wp2
          go_region_law (first | (refine step_append_lies _ (by rfl) _ _ _ (by rfl) (w2.heap.size + 1) 3 i0 _ 1 8 zUnderInts HI.out.2.2.2 HI.out.1 HI.out.2.1 HI.out.2.2.1 rfl (by omega) (.slice xo l.length xc) l.length (l.map (Value.int .i64)) (by rfl) (by first | exact HO.out.alloc _ | exact (HO.out.alloc _).drew | exact HO.out.drew.alloc _) ⟨wr.heap.size, 0, none⟩ 1 1 [.int .i64 ins[k].nums[q]] (by rfl) (by rfl) (World.news_of_block (cs := #[.int .i64 ins[k].nums[q]]) (t := 3) (fr := (0, 0)) (heap_alloc_new wr _)) (by simp [Value.oneCell']) (by omega) (by unfold maxLen; omega) (by omega) (by simp; omega) (wr.heap.size + 1) (by simp) ?_; intro g9 cap9 w9 hown9 hgrow hat hlt9; obtain ⟨t0, tf⟩ := CopyInv.store (w3 := wr.drew) (o := .cells #[.int .i64 ins[k].nums[q]] 3) (HCC.out.on (Below.drew (Bl.refl _))) hgrow) | fail)
          all_goals
            have P := CopyInv.push (w3 := wr.drew) (o := .cells #[.int .i64 ins[k].nums[q]] 3) (HCC.out.on (Below.drew (Bl.refl _))) hown9 hgrow
            have HP : Hid (CopyInv w2 (w9.setCell ⟨w2.heap.size, 2, none⟩ (.slice (some ⟨g9, 0, none⟩) (l.length + 1) cap9)) ins[k].rows ins[k].cols (l ++ [ins[k].nums[q]]) (some ⟨g9, 0, none⟩) cap9) := P
            clear P hown9 hgrow hat hlt9
            go_wp2
            exact ⟨⟨q + 1, by omega, by go_num, ⟨_, _, by rw [HST.out]; exact HP.out⟩⟩, by simp [intOf]; omega⟩
        · have hqe : q = ins[k].nums.length := by omega
          rw [hqe, List.take_length] at hCC
          have HCC : Hid (CopyInv w2 wr ins[k].rows ins[k].cols ins[k].nums xo xc) := hCC
          obtain ⟨vs, hvl, hrow, hnums⟩ := hR.out.below hCC.below
          have HP0 : Hid (vs.length = (ins.take k).length ∧ (∀ j, j < (ins.take k).length → wr.ownsRow w1.heap.size 3 1 (vs.getD j .nilIface) (partM (ins.take k) j).nums.length ((partM (ins.take k) j).nums.map (Value.int .i64)))) := ⟨hvl, hnums⟩
          have HP1 : Hid (wr.ownsRow w1.heap.size 34 3 (.slice vo k vc) (ins.take k).length (matCells (ins.take k) vs)) := hrow
          have HROW : Hid (wr.ownsRow w1.heap.size 34 3 (.slice vo k vc) k (matCells (ins.take k) vs)) := by rw [htl] at hrow; exact hrow
          clear hvl hrow hnums
          obtain ⟨_, u2, u3, m0, m1, m2, _, mf⟩ := HCC.out.made
          have hsz : w1.heap.size ≤ wr.heap.size := Nat.le_trans hbr.size HCC.out.below.size
          have HBW : Hid (Below w1.heap.size w1 wr) := Bl.trans hbr HCC.out.below
          clear hCC hqe
          go_wp2_with (at_builtin; refine wpList_append_own _ rfl _ _ 23 rfl w1.heap.size 34 i1 _ 3 40 underMxs HJ.out.2.2.2 HJ.out.1 HJ.out.2.1 HJ.out.2.2.1 rfl (by decide) _ _ _ rfl (HROW.out.alloc _) ⟨wr.heap.size, 0, none⟩ 1 1 [.int .i64 ins[k].rows, .int .i64 ins[k].cols, .slice xo ins[k].nums.length xc] rfl rfl ?c1 ?c2 ?c3 ?c4 ?c5 ?_)
          try (case c1 =>
            intro j u hj
            match j, hj with
            | 0, hj => simp at hj; subst hj; simp [Addr.add, go_sem]
            | 1, hj => simp at hj; subst hj; simp [Addr.add, go_sem]
            | 2, hj => simp at hj; subst hj; simp [Addr.add, go_sem]
            | j + 3, hj => simp at hj)
          case c2 => first | (intro u hu; simp at hu; rcases hu with rfl | rfl | rfl <;> rfl) | rfl | simp [Value.oneCell']
          case c3 => unfold maxLen; omega
          case c4 => omega
          case c5 => first | omega | (simp; omega)
          intro v' w9 hown9 hgrow _
          have HV : Hid (wr.ownsRow w1.heap.size 3 1 (.slice xo ins[k].nums.length xc) ins[k].nums.length (ins[k].nums.map (Value.int .i64))) := ownsRow_base HCC.out.made.2.2.2.2.2.2.1 (by have := hbr.size; omega)
          have hR9 : RowOf w9 w1.heap.size (ins.take (k + 1)) v' := by
            rw [List.take_succ_eq_append_getElem hlt]
            exact RowOf.push HP0.out.1 HP1.out HP0.out.2 HV.out (Bl.more (Bl.refl _) _) hgrow (by rw [htl]; exact hown9)
          have hB9 : Below w1.heap.size w1 w9 := (HBW.out.alloc HBW.out.size _).grown hgrow (by simp; omega) (fun j e => (HROW.out.lt j e).1)
          have H9 : Hid (RowOf w9 w1.heap.size (ins.take (k + 1)) v' ∧ Below w1.heap.size w1 w9) := ⟨hR9, hB9⟩
          clear hown9 hgrow hR9 hB9 m0 m1 m2 mf
          go_wp2
          exact ⟨⟨k + 1, by omega, by go_num, H9.out.1, H9.out.2⟩, by simp [intOf]; omega⟩
    · have hke : k = ins.length := by omega
      subst hke
      rw [List.take_length] at hR
      obtain ⟨lo, lc, e, hMl⟩ := hR.out.mats
      cases e
      have HRL : Hid (RowOf wr w1.heap.size ins (.slice vo ins.length vc)) := hR.out
      have HML : Hid (Mats wr vo ins) := hMl
      clear hR hMl htl hlt hk
      rename World => w4
      have HB4 : Hid (Below w.heap.size w w4) := Bl.trans HB1.out hbr
      have HN4 : Hid (Nodes w4 go ns) := HN1.out.below hbr
      have hz14 : w1.heap.size ≤ w4.heap.size := hbr.size
      clear hbr
      cases hg : isGraphB ns
      · have HG : Hid (isGraphB ns = false) := hg
        clear hg
        go_wp2_with fail
        refine (prun_nograph ns ins go vo gcap vc _ HN4.out HG.out).mono ?_
        rintro e w5 ⟨rfl, hb5⟩
        have HB5 : Hid (Below w4.heap.size w4 w5) := hb5
        have HR5 : Hid (w5.ownsRow w4.heap.size 3 1 (.slice none 0 0) 0 []) := World.ownsRow_nil _ _ _ _
        have HX5 : Hid (Ints w5 none []) := fun j h => absurd h (Nat.not_lt_zero _)
        have HNB : Hid (0 ≤ 1000) := Nat.zero_le _
        clear hb5
        go_wp2_with fail
        refine (rrun_nograph ns ins ao io ca ci _ (((HN.out.below HB4.out).below HB5.out).below (Bl.more (Bl.refl _) _)) HS.out HG.out).mono ?_
        rintro e w6 ⟨rfl, hb6⟩
        have HY6 : Hid (Ints w6 none []) := fun j h => absurd h (Nat.not_lt_zero _)
        have HB6 : Hid (Below w.heap.size w w6) := Bl.trans (Bl.trans HB4.out HB5.out) (Bl.trans (Bl.more (Bl.refl _) _) hb6)
        have HB46 : Hid (Below w4.heap.size w4 w6) := Bl.trans HB5.out (Bl.trans (Bl.more (Bl.refl _) _) hb6)
        have MX6 : Hid (MxCell w6 w5.heap.size 0 0 none 0 0) := (MxCell.new w5 _ _ _ _ _ _).below hb6
        have hz6 : w5.heap.size < w6.heap.size := MX6.out.1
        have HR6 : Hid (w6.ownsRow w4.heap.size 3 1 (.slice none 0 0) 0 []) := ownsRow_below (HR5.out.alloc _) hb6
        have HXG : Hid (∀ g, (Value.slice none 0 0).ownBlock = some g → w4.heap.size ≤ g ∧ g < w5.heap.size) := fun g e => HR5.out.lt g e
        have HI6 : Hid (Ints w6 none [] ∧ Ints w6 none []) := ⟨(HX5.out.below (Bl.more (Bl.refl _) _)).below hb6, HY6.out⟩
        clear hb6 HR5 HX5 HY6
        obtain ⟨x0, x1, x2, x3⟩ := MX6.out
        have alx := al1 x0
        go_wp2_with fail
        refine (sameInts_refl [] none none 0 0 _ (HI6.out.1.below (Bl.more (Bl.refl _) _)) (HI6.out.2.below (Bl.more (Bl.refl _) _)) (by simp)).mono ?_
        rintro e w7 ⟨rfl, q7, rfl⟩
        clear HI6
        go_wp2_with fail
        refine (same_refl ns go ao gcap ca _ ((HN4.out.below HB46.out).below (Bl.drew (Bl.more (Bl.refl _) _) _)) ((HN.out.below HB6.out).below (Bl.drew (Bl.more (Bl.refl _) _) _)) HS.out).mono ?_
        rintro e w8 ⟨rfl, q8, rfl⟩
        go_wp2_with fail
        refine (ownsInts_any _ bb base vi vm (.slice none 0 0) I next 0 [] ((HB.out.below HB6.out).below (Bl.drew (Bl.more (Bl.refl _) _) _)) (ownsRow_base (ownsRow_below HR6.out (Bl.drew (Bl.more (Bl.refl _) _) _)) (Nat.le_trans hbase HB4.out.size)) HNB.out hI hx1 hx2 ?_ ?_).mono ?_
        · intro x hx g' e e2
          have h1 := HB.out.ll x hx g' e
          have h2 := (HXG.out g' e2).1
          have h3 := HB4.out.size
          omega
        · intro g' e e2
          have h1 := (HB.out.own_lt g' e2).2
          have h2 := (HXG.out g' e).1
          have h3 := HB4.out.size
          omega
        rintro e w9 ⟨rfl, hO⟩
        have h68 : Below w6.heap.size w6 ((w6.alloc (.cells #[.int .i64 0, .int .i64 0, .slice none 0 0] 34)).drewN (q7 + q8)) := Bl.drew (Bl.more (Bl.refl _) _) _
        obtain ⟨kIn, rowL, hcell⟩ := after_owns HB.out HB1.out.size HB4.out (Bl.trans HB46.out h68) HB5.out.size HXG.out hO.keeps HRL.out
        have HE : Hid ((∃ vi vm I', IBook w9 bb base vi vm I' (next - 1) ∧ I'.length = I.length + 4) ∧ Below base w w9) := book_end HB.out (Bl.trans HB6.out h68) hbase (fun g e => Nat.le_trans HB4.out.size (HXG.out g e).1) hO
        have HMI : Hid (Mats w9 io ins) := HIN.out w9 kIn
        obtain ⟨lo', lc', e, hML9⟩ := rowL.mats
        cases e
        have HML9 : Hid (Mats w9 vo ins) := hML9
        have hz8 : w6.heap.size < ((w6.alloc (.cells #[.int .i64 0, .int .i64 0, .slice none 0 0] 34)).drewN (q7 + q8)).heap.size := by simp
        have X1 := (hcell w5.heap.size (Nat.le_refl _) (by omega) 0).trans ((h68.cell (by exact x0)).trans x1)
        have X2 := (hcell w5.heap.size (Nat.le_refl _) (by omega) 1).trans ((h68.cell (by exact x0)).trans x2)
        have Y1 : w9.cell? ⟨w6.heap.size, 0, none⟩ = some (.int .i64 0) := (hcell w6.heap.size (by omega) hz8 0).trans (by simp [go_sem])
        have Y2 : w9.cell? ⟨w6.heap.size, 1, none⟩ = some (.int .i64 0) := (hcell w6.heap.size (by omega) hz8 1).trans (by simp [go_sem])
        clear hO kIn rowL hcell hML9 h68 hz8 x0 x1 x2 x3 alx
        go_wp2
        go_loopw [17, 18] (fun kv j wr => ∃ k : Nat, kv = .bool true ∧ j = .int .i64 k ∧ k ≤ ins.length ∧ Hid (Below w9.heap.size w9 wr)) (fun _ j _ => ins.length - (intOf j).toNat)
        case atStart => exact ⟨0, rfl, rfl, Nat.zero_le _, Bl.refl _⟩
        case round =>
          obtain ⟨k, rfl, rfl, hk, hbq⟩ := hrel
          by_cases hlt : k < ins.length
          · obtain ⟨b1, o1, rfl, hb1, _, _, no1, nc1, c2, hi1⟩ := HML9.out.below hbq.out k hlt
            obtain ⟨b2, o2, rfl, hb2, _, _, no2, nc2, d2, hi2⟩ := HMI.out.below hbq.out k hlt
            have HII : Hid (Ints wr no1 ins[k].nums ∧ Ints wr no2 ins[k].nums) := ⟨hi1, hi2⟩
            have hnk := HNL.out k hlt
            clear hi1 hi2
            go_wp2
            go_quiet ((go_at_call 14; exact Calls.quiet_of (sameInts_refl ins[k].nums no1 no2 nc1 nc2 _ (HII.out.1.below (by repeat (first | exact Bl.refl _ | refine Bl.drew ?_ _ | refine Below.drew ?_))) (HII.out.2.below (by repeat (first | exact Bl.refl _ | refine Bl.drew ?_ _ | refine Below.drew ?_))) hnk)))
            go_wp2
            go_roundw
            case rel => exact ⟨k + 1, rfl, by go_num, by omega, Bl.drew hbq.out _⟩
            case measure => simp [intOf]; omega
          · have hke : k = ins.length := by omega
            subst hke
            have X1' := (hbq.out.cell (World.block_lt_of_cell? w9 _ X1)).trans X1
            have X2' := (hbq.out.cell (World.block_lt_of_cell? w9 _ X2)).trans X2
            have Y1' := (hbq.out.cell (World.block_lt_of_cell? w9 _ Y1)).trans Y1
            have Y2' := (hbq.out.cell (World.block_lt_of_cell? w9 _ Y2)).trans Y2
            clear hk hlt X1 X2 Y1 Y2
            go_wp2_with fail
            refine (num_any _ _).mono ?_
            rintro e w10 ⟨rfl, hw10⟩
            obtain rfl := hw10.symm
            go_wp2
            go_ret
            obtain ⟨⟨vi', vm', I', hbk, hl'⟩, hbb⟩ := HE.out
            exact ⟨rfl, ⟨vi', vm', I', hbk.below hbq.out, hl'⟩, hbb.trans (hbq.out.mono (Nat.le_trans hbase hbb.size))⟩
      · have HG : Hid (isGraphB ns = true) := hg
        clear hg
        go_wp2_with fail
        refine (prun_graph ns ins go vo gcap vc _ HN4.out HML.out HG.out hil).mono ?_
        rintro e w5 hp5
        rcases hp5 with ⟨hy, v, rfl, hown, hb5⟩ | ⟨hno, rfl, hb5⟩
        · obtain ⟨xo, xc, rfl⟩ := owns_shape hown
          obtain ⟨xo', xc', exx, hX5⟩ := ints_of hown
          cases exx
          have HB5 : Hid (Below w4.heap.size w4 w5) := hb5
          have HR5 : Hid (w5.ownsRow w4.heap.size 3 1 (.slice xo (partM (gives ns ins ns.length) (ns.length - 1 : Nat)).nums.length xc) (partM (gives ns ins ns.length) (ns.length - 1 : Nat)).nums.length ((partM (gives ns ins ns.length) (ns.length - 1 : Nat)).nums.map (Value.int .i64))) := hown
          have HX5 : Hid (Ints w5 xo (partM (gives ns ins ns.length) (ns.length - 1 : Nat)).nums) := hX5
          have HNB : Hid ((partM (gives ns ins ns.length) (ns.length - 1 : Nat)).nums.length ≤ 1000) := last_small HG.out
          clear hb5 hown hX5
          go_wp2_with fail
          refine (rrun_graph ns ins ao io ca ci _ (((HN.out.below HB4.out).below HB5.out).below (Bl.more (Bl.refl _) _)) (((HM0.out.below HB4.out).below HB5.out).below (Bl.more (Bl.refl _) _)) HS.out HG.out).mono ?_
          rintro e w6 hpost
          rcases hpost with ⟨_, yo, yc, rfl, hy6, hb6⟩ | ⟨hnn, _⟩
          case inr => rw [hy.out] at hnn; cases hnn.out
          have HY6 : Hid (Ints w6 yo (partM (gives ns ins ns.length) (ns.length - 1 : Nat)).nums) := hy6
          clear hy6
          generalize (partM (gives ns ins ns.length) (ns.length - 1 : Nat)) = M at *
          have HB6 : Hid (Below w.heap.size w w6) := Bl.trans (Bl.trans HB4.out HB5.out) (Bl.trans (Bl.more (Bl.refl _) _) hb6)
          have HB46 : Hid (Below w4.heap.size w4 w6) := Bl.trans HB5.out (Bl.trans (Bl.more (Bl.refl _) _) hb6)
          have MX6 : Hid (MxCell w6 w5.heap.size M.rows M.cols xo M.nums.length xc) := (MxCell.new w5 _ _ _ _ _ _).below hb6
          have hz6 : w5.heap.size < w6.heap.size := MX6.out.1
          have HR6 : Hid (w6.ownsRow w4.heap.size 3 1 (.slice xo M.nums.length xc) M.nums.length (M.nums.map (Value.int .i64))) := ownsRow_below (HR5.out.alloc _) hb6
          have HXG : Hid (∀ g, (Value.slice xo M.nums.length xc).ownBlock = some g → w4.heap.size ≤ g ∧ g < w5.heap.size) := fun g e => HR5.out.lt g e
          have HI6 : Hid (Ints w6 xo M.nums ∧ Ints w6 yo M.nums) := ⟨(HX5.out.below (Bl.more (Bl.refl _) _)).below hb6, HY6.out⟩
          clear hb6 HR5 HX5 HY6
          obtain ⟨x0, x1, x2, x3⟩ := MX6.out
          have alx := al1 x0
          go_wp2_with fail
          refine (sameInts_refl M.nums xo yo xc yc _ (HI6.out.1.below (Bl.more (Bl.refl _) _)) (HI6.out.2.below (Bl.more (Bl.refl _) _)) (by have := HNB.out; omega)).mono ?_
          rintro e w7 ⟨rfl, q7, rfl⟩
          clear HI6
          go_wp2_with fail
          refine (same_refl ns go ao gcap ca _ ((HN4.out.below HB46.out).below (Bl.drew (Bl.more (Bl.refl _) _) _)) ((HN.out.below HB6.out).below (Bl.drew (Bl.more (Bl.refl _) _) _)) HS.out).mono ?_
          rintro e w8 ⟨rfl, q8, rfl⟩
          go_wp2_with fail
          refine (ownsInts_any _ bb base vi vm (.slice xo M.nums.length xc) I next M.nums.length (M.nums.map (Value.int .i64)) ((HB.out.below HB6.out).below (Bl.drew (Bl.more (Bl.refl _) _) _)) (ownsRow_base (ownsRow_below HR6.out (Bl.drew (Bl.more (Bl.refl _) _) _)) (Nat.le_trans hbase HB4.out.size)) HNB.out hI hx1 hx2 ?_ ?_).mono ?_
          · intro x hx g' e e2
            have h1 := HB.out.ll x hx g' e
            have h2 := (HXG.out g' e2).1
            have h3 := HB4.out.size
            omega
          · intro g' e e2
            have h1 := (HB.out.own_lt g' e2).2
            have h2 := (HXG.out g' e).1
            have h3 := HB4.out.size
            omega
          rintro e w9 ⟨rfl, hO⟩
          have h68 : Below w6.heap.size w6 ((w6.alloc (.cells #[.int .i64 M.rows, .int .i64 M.cols, .slice yo M.nums.length yc] 34)).drewN (q7 + q8)) := Bl.drew (Bl.more (Bl.refl _) _) _
          obtain ⟨kIn, rowL, hcell⟩ := after_owns HB.out HB1.out.size HB4.out (Bl.trans HB46.out h68) HB5.out.size HXG.out hO.keeps HRL.out
          have HE : Hid ((∃ vi vm I', IBook w9 bb base vi vm I' (next - 1) ∧ I'.length = I.length + 4) ∧ Below base w w9) := book_end HB.out (Bl.trans HB6.out h68) hbase (fun g e => Nat.le_trans HB4.out.size (HXG.out g e).1) hO
          have HMI : Hid (Mats w9 io ins) := HIN.out w9 kIn
          obtain ⟨lo', lc', e, hML9⟩ := rowL.mats
          cases e
          have HML9 : Hid (Mats w9 vo ins) := hML9
          have hz8 : w6.heap.size < ((w6.alloc (.cells #[.int .i64 M.rows, .int .i64 M.cols, .slice yo M.nums.length yc] 34)).drewN (q7 + q8)).heap.size := by simp
          have X1 := (hcell w5.heap.size (Nat.le_refl _) (by omega) 0).trans ((h68.cell (by exact x0)).trans x1)
          have X2 := (hcell w5.heap.size (Nat.le_refl _) (by omega) 1).trans ((h68.cell (by exact x0)).trans x2)
          have Y1 : w9.cell? ⟨w6.heap.size, 0, none⟩ = some (.int .i64 M.rows) := (hcell w6.heap.size (by omega) hz8 0).trans (by simp [go_sem])
          have Y2 : w9.cell? ⟨w6.heap.size, 1, none⟩ = some (.int .i64 M.cols) := (hcell w6.heap.size (by omega) hz8 1).trans (by simp [go_sem])
          clear hO kIn rowL hcell hML9 h68 hz8 x0 x1 x2 x3 alx
          go_wp2
          go_loopw [17, 18] (fun kv j wr => ∃ k : Nat, kv = .bool true ∧ j = .int .i64 k ∧ k ≤ ins.length ∧ Hid (Below w9.heap.size w9 wr)) (fun _ j _ => ins.length - (intOf j).toNat)
          case atStart => exact ⟨0, rfl, rfl, Nat.zero_le _, Bl.refl _⟩
          case round =>
            obtain ⟨k, rfl, rfl, hk, hbq⟩ := hrel
            by_cases hlt : k < ins.length
            · obtain ⟨b1, o1, rfl, hb1, _, _, no1, nc1, c2, hi1⟩ := HML9.out.below hbq.out k hlt
              obtain ⟨b2, o2, rfl, hb2, _, _, no2, nc2, d2, hi2⟩ := HMI.out.below hbq.out k hlt
              have HII : Hid (Ints wr no1 ins[k].nums ∧ Ints wr no2 ins[k].nums) := ⟨hi1, hi2⟩
              have hnk := HNL.out k hlt
              clear hi1 hi2
              go_wp2
              go_quiet ((go_at_call 14; exact Calls.quiet_of (sameInts_refl ins[k].nums no1 no2 nc1 nc2 _ (HII.out.1.below (by repeat (first | exact Bl.refl _ | refine Bl.drew ?_ _ | refine Below.drew ?_))) (HII.out.2.below (by repeat (first | exact Bl.refl _ | refine Bl.drew ?_ _ | refine Below.drew ?_))) hnk)))
              go_wp2
              go_roundw
              case rel => exact ⟨k + 1, rfl, by go_num, by omega, Bl.drew hbq.out _⟩
              case measure => simp [intOf]; omega
            · have hke : k = ins.length := by omega
              subst hke
              have X1' := (hbq.out.cell (World.block_lt_of_cell? w9 _ X1)).trans X1
              have X2' := (hbq.out.cell (World.block_lt_of_cell? w9 _ X2)).trans X2
              have Y1' := (hbq.out.cell (World.block_lt_of_cell? w9 _ Y1)).trans Y1
              have Y2' := (hbq.out.cell (World.block_lt_of_cell? w9 _ Y2)).trans Y2
              clear hk hlt X1 X2 Y1 Y2
              go_wp2_with fail
              refine (num_any _ _).mono ?_
              rintro e w10 ⟨rfl, hw10⟩
              obtain rfl := hw10.symm
              go_wp2
              go_ret
              obtain ⟨⟨vi', vm', I', hbk, hl'⟩, hbb⟩ := HE.out
              exact ⟨rfl, ⟨vi', vm', I', hbk.below hbq.out, hl'⟩, hbb.trans (hbq.out.mono (Nat.le_trans hbase hbb.size))⟩
        · have HB5 : Hid (Below w4.heap.size w4 w5) := hb5
          have HR5 : Hid (w5.ownsRow w4.heap.size 3 1 (.slice none 0 0) 0 []) := World.ownsRow_nil _ _ _ _
          have HX5 : Hid (Ints w5 none []) := fun j h => absurd h (Nat.not_lt_zero _)
          have HNB : Hid (0 ≤ 1000) := Nat.zero_le _
          clear hb5
          go_wp2_with fail
          refine (rrun_graph ns ins ao io ca ci _ (((HN.out.below HB4.out).below HB5.out).below (Bl.more (Bl.refl _) _)) (((HM0.out.below HB4.out).below HB5.out).below (Bl.more (Bl.refl _) _)) HS.out HG.out).mono ?_
          rintro e w6 hpost
          rcases hpost with ⟨hyes, _⟩ | ⟨_, rfl, hb6⟩
          · rw [hno.out] at hyes; cases hyes.out

          have HY6 : Hid (Ints w6 none []) := fun j h => absurd h (Nat.not_lt_zero _)
          have HB6 : Hid (Below w.heap.size w w6) := Bl.trans (Bl.trans HB4.out HB5.out) (Bl.trans (Bl.more (Bl.refl _) _) hb6)
          have HB46 : Hid (Below w4.heap.size w4 w6) := Bl.trans HB5.out (Bl.trans (Bl.more (Bl.refl _) _) hb6)
          have MX6 : Hid (MxCell w6 w5.heap.size 0 0 none 0 0) := (MxCell.new w5 _ _ _ _ _ _).below hb6
          have hz6 : w5.heap.size < w6.heap.size := MX6.out.1
          have HR6 : Hid (w6.ownsRow w4.heap.size 3 1 (.slice none 0 0) 0 []) := ownsRow_below (HR5.out.alloc _) hb6
          have HXG : Hid (∀ g, (Value.slice none 0 0).ownBlock = some g → w4.heap.size ≤ g ∧ g < w5.heap.size) := fun g e => HR5.out.lt g e
          have HI6 : Hid (Ints w6 none [] ∧ Ints w6 none []) := ⟨(HX5.out.below (Bl.more (Bl.refl _) _)).below hb6, HY6.out⟩
          clear hb6 HR5 HX5 HY6
          obtain ⟨x0, x1, x2, x3⟩ := MX6.out
          have alx := al1 x0
          go_wp2_with fail
          refine (sameInts_refl [] none none 0 0 _ (HI6.out.1.below (Bl.more (Bl.refl _) _)) (HI6.out.2.below (Bl.more (Bl.refl _) _)) (by simp)).mono ?_
          rintro e w7 ⟨rfl, q7, rfl⟩
          clear HI6
          go_wp2_with fail
          refine (same_refl ns go ao gcap ca _ ((HN4.out.below HB46.out).below (Bl.drew (Bl.more (Bl.refl _) _) _)) ((HN.out.below HB6.out).below (Bl.drew (Bl.more (Bl.refl _) _) _)) HS.out).mono ?_
          rintro e w8 ⟨rfl, q8, rfl⟩
          go_wp2_with fail
          refine (ownsInts_any _ bb base vi vm (.slice none 0 0) I next 0 [] ((HB.out.below HB6.out).below (Bl.drew (Bl.more (Bl.refl _) _) _)) (ownsRow_base (ownsRow_below HR6.out (Bl.drew (Bl.more (Bl.refl _) _) _)) (Nat.le_trans hbase HB4.out.size)) HNB.out hI hx1 hx2 ?_ ?_).mono ?_
          · intro x hx g' e e2
            have h1 := HB.out.ll x hx g' e
            have h2 := (HXG.out g' e2).1
            have h3 := HB4.out.size
            omega
          · intro g' e e2
            have h1 := (HB.out.own_lt g' e2).2
            have h2 := (HXG.out g' e).1
            have h3 := HB4.out.size
            omega
          rintro e w9 ⟨rfl, hO⟩
          have h68 : Below w6.heap.size w6 ((w6.alloc (.cells #[.int .i64 0, .int .i64 0, .slice none 0 0] 34)).drewN (q7 + q8)) := Bl.drew (Bl.more (Bl.refl _) _) _
          obtain ⟨kIn, rowL, hcell⟩ := after_owns HB.out HB1.out.size HB4.out (Bl.trans HB46.out h68) HB5.out.size HXG.out hO.keeps HRL.out
          have HE : Hid ((∃ vi vm I', IBook w9 bb base vi vm I' (next - 1) ∧ I'.length = I.length + 4) ∧ Below base w w9) := book_end HB.out (Bl.trans HB6.out h68) hbase (fun g e => Nat.le_trans HB4.out.size (HXG.out g e).1) hO
          have HMI : Hid (Mats w9 io ins) := HIN.out w9 kIn
          obtain ⟨lo', lc', e, hML9⟩ := rowL.mats
          cases e
          have HML9 : Hid (Mats w9 vo ins) := hML9
          have hz8 : w6.heap.size < ((w6.alloc (.cells #[.int .i64 0, .int .i64 0, .slice none 0 0] 34)).drewN (q7 + q8)).heap.size := by simp
          have X1 := (hcell w5.heap.size (Nat.le_refl _) (by omega) 0).trans ((h68.cell (by exact x0)).trans x1)
          have X2 := (hcell w5.heap.size (Nat.le_refl _) (by omega) 1).trans ((h68.cell (by exact x0)).trans x2)
          have Y1 : w9.cell? ⟨w6.heap.size, 0, none⟩ = some (.int .i64 0) := (hcell w6.heap.size (by omega) hz8 0).trans (by simp [go_sem])
          have Y2 : w9.cell? ⟨w6.heap.size, 1, none⟩ = some (.int .i64 0) := (hcell w6.heap.size (by omega) hz8 1).trans (by simp [go_sem])
          clear hO kIn rowL hcell hML9 h68 hz8 x0 x1 x2 x3 alx
          go_wp2
          go_loopw [17, 18] (fun kv j wr => ∃ k : Nat, kv = .bool true ∧ j = .int .i64 k ∧ k ≤ ins.length ∧ Hid (Below w9.heap.size w9 wr)) (fun _ j _ => ins.length - (intOf j).toNat)
          case atStart => exact ⟨0, rfl, rfl, Nat.zero_le _, Bl.refl _⟩
          case round =>
            obtain ⟨k, rfl, rfl, hk, hbq⟩ := hrel
            by_cases hlt : k < ins.length
            · obtain ⟨b1, o1, rfl, hb1, _, _, no1, nc1, c2, hi1⟩ := HML9.out.below hbq.out k hlt
              obtain ⟨b2, o2, rfl, hb2, _, _, no2, nc2, d2, hi2⟩ := HMI.out.below hbq.out k hlt
              have HII : Hid (Ints wr no1 ins[k].nums ∧ Ints wr no2 ins[k].nums) := ⟨hi1, hi2⟩
              have hnk := HNL.out k hlt
              clear hi1 hi2
              go_wp2
              go_quiet ((go_at_call 14; exact Calls.quiet_of (sameInts_refl ins[k].nums no1 no2 nc1 nc2 _ (HII.out.1.below (by repeat (first | exact Bl.refl _ | refine Bl.drew ?_ _ | refine Below.drew ?_))) (HII.out.2.below (by repeat (first | exact Bl.refl _ | refine Bl.drew ?_ _ | refine Below.drew ?_))) hnk)))
              go_wp2
              go_roundw
              case rel => exact ⟨k + 1, rfl, by go_num, by omega, Bl.drew hbq.out _⟩
              case measure => simp [intOf]; omega
            · have hke : k = ins.length := by omega
              subst hke
              have X1' := (hbq.out.cell (World.block_lt_of_cell? w9 _ X1)).trans X1
              have X2' := (hbq.out.cell (World.block_lt_of_cell? w9 _ X2)).trans X2
              have Y1' := (hbq.out.cell (World.block_lt_of_cell? w9 _ Y1)).trans Y1
              have Y2' := (hbq.out.cell (World.block_lt_of_cell? w9 _ Y2)).trans Y2
              clear hk hlt X1 X2 Y1 Y2
              go_wp2_with fail
              refine (num_any _ _).mono ?_
              rintro e w10 ⟨rfl, hw10⟩
              obtain rfl := hw10.symm
              go_wp2
              go_ret
              obtain ⟨⟨vi', vm', I', hbk, hl'⟩, hbb⟩ := HE.out
              exact ⟨rfl, ⟨vi', vm', I', hbk.below hbq.out, hl'⟩, hbb.trans (hbq.out.mono (Nat.le_trans hbase hbb.size))⟩
end Go.Proofs.Ytanlmfcllebopaa
