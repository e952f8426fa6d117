/- (*thriftlaw.Book).join, walked. -/
import Derived.Test.YtanlmfcllebopaaJo
import Derived.Test.YtanlmfcllebopaaZn
import Derived.Test.YtanlmfcllebopaaZj
namespace Go.Proofs.Ytanlmfcllebopaa
open Go.RowKit Go.Maps

def pcells : List (Int × Int) → List Value
  | [] => []
  | t :: ts => .int .i64 t.1 :: .int .i64 t.2 :: pcells ts
theorem pcells_app (ns ms : List (Int × Int)) : pcells (ns ++ ms) = pcells ns ++ pcells ms := by
  induction ns with
  | nil => rfl
  | cons n ns ih => simp only [List.cons_append, pcells, ih]
theorem pcells_at (ns : List (Int × Int)) : ∀ i, (h : i < ns.length) → (pcells ns)[i * 2]? = some (.int .i64 ns[i].1) ∧ (pcells ns)[i * 2 + 1]? = some (.int .i64 ns[i].2) := by
  induction ns with
  | nil => intro i h; exact absurd h (Nat.not_lt_zero _)
  | cons n ns ih =>
    intro i h
    cases i with
    | zero => simp [pcells]
    | succ i =>
      have := ih i (by simpa using h)
      have e0 : (i + 1) * 2 = (i * 2) + 1 + 1 := by omega
      simp only [e0, pcells, List.getElem?_cons_succ, List.getElem_cons_succ]
      exact this
theorem pairs_of_owns {w : World} {base : Nat} {v : Value} {ts : List (Int × Int)} (h : w.ownsRow base 42 2 v ts.length (pcells ts)) : ∃ ao cap, v = .slice ao ts.length cap ∧ Pairs w ao ts := by
  rcases h with ⟨h0, ⟨rfl, hn⟩ | ⟨g, cap, cur, rfl, hb, hh, hle, hm, hcs, hcur⟩⟩
  · exact ⟨none, 0, by rw [hn], fun i hi => absurd hi (by omega)⟩
  · have hw : w.ownsRow base 42 2 (.slice (some ⟨g, 0, none⟩) ts.length cap) ts.length (pcells ts) := ⟨h0, .inr ⟨g, cap, cur, rfl, hb, hh, hle, hm, hcs, hcur⟩⟩
    refine ⟨some ⟨g, 0, none⟩, cap, rfl, fun i hi => ⟨g, 0, rfl, (Array.getElem?_eq_some_iff.1 hh).1, ?_⟩⟩
    obtain ⟨a0, a1⟩ := pcells_at ts i hi
    simp only [Nat.zero_add]
    exact ⟨(hw.cellAt _ (by omega)).trans a0, (hw.cellAt _ (by omega)).trans a1⟩
theorem infoPr : (Try.prog.info? 42).map (fun i => (i.zero, i.size, i.bytes)) = some (some (.agg #[.int .i64 0, .int .i64 0]), 2, 16) := by kernel_rfl
theorem underPrs : Try.prog.underlying 37 = some (.slice 42) := by kernel_rfl
theorem underPr : Try.prog.underlying 42 = some (.struct (Try.prog.fieldsOf 42)) := by kernel_rfl
theorem stoodPr : Try.prog.stoodInHeld 42 = false := by kernel_rfl
theorem guardPr : Try.prog.eqGuardType Try.prog.depth 42 = false := by kernel_rfl
theorem nfldsPr : (Try.prog.fieldsOf 42).toList.map (fun f => (f.name, f.type, f.offset)) = [("A", 3, 0), ("B", 3, 1)] := by kernel_rfl
theorem stoodTm : Try.prog.stoodInHeld 40 = false := by kernel_rfl
theorem guardTm : Try.prog.eqGuardType Try.prog.depth 40 = false := by kernel_rfl
theorem nfldsTm : (Try.prog.fieldsOf 40).toList.map (fun f => (f.name, f.type, f.offset)) = [("Op", 3, 0), ("K", 3, 1), ("A", 3, 2), ("B", 3, 3)] := by kernel_rfl
theorem jlist2 {α : Type} {l : List α} (h : l.length = 2) : ∃ a b, l = [a, b] := by
  match l, h with
  | [a, b], _ => exact ⟨a, b, rfl⟩
theorem run_eql_tm (x : Tm) (w : World) : (binOp .eql 40 (.agg #[.int .i64 x.op, .int .i64 x.k, .int .i64 x.a, .int .i64 x.b]) (.agg #[.int .i64 x.op, .int .i64 x.k, .int .i64 x.a, .int .i64 x.b])).run Try.prog w = .ok (.bool true) w := by
  rw [run_eql_struct, run_equalIn_struct w 9999 40 _ _ underTm stoodTm]
  have h := nfldsTm
  generalize (Try.prog.fieldsOf 40).toList = fs at h
  have hlen : fs.length = 4 := by simpa using congrArg List.length h
  obtain ⟨f0, f1, f2, f3, rfl⟩ := list4 hlen
  simp only [List.map_cons, List.map_nil, List.cons.injEq, Prod.mk.injEq, and_true] at h
  obtain ⟨⟨n0, t0, o0⟩, ⟨n1, t1, o1⟩, ⟨n2, t2, o2⟩, ⟨n3, t3, o3⟩⟩ := h
  simp only [Op.eqFields, n0, t0, o0, n1, t1, o1, n2, t2, o2, n3, t3, o3]
  simp [go_sem, part]
theorem run_eql_pr (x : Int × Int) (w : World) : (binOp .eql 42 (.agg #[.int .i64 x.1, .int .i64 x.2]) (.agg #[.int .i64 x.1, .int .i64 x.2])).run Try.prog w = .ok (.bool true) w := by
  rw [run_eql_struct, run_equalIn_struct w 9999 42 _ _ underPr stoodPr]
  have h := nfldsPr
  generalize (Try.prog.fieldsOf 42).toList = fs at h
  have hlen : fs.length = 2 := by simpa using congrArg List.length h
  obtain ⟨f0, f1, rfl⟩ := jlist2 hlen
  simp only [List.map_cons, List.map_nil, List.cons.injEq, Prod.mk.injEq, and_true] at h
  obtain ⟨⟨n0, t0, o0⟩, ⟨n1, t1, o1⟩⟩ := h
  simp only [Op.eqFields, n0, t0, o0, n1, t1, o1]
  simp [go_sem, part]
set_option maxHeartbeats 8000000 in
set_option maxRecDepth 100000 in
theorem bjoin_any (ts : List Tm) (ps : List (Int × Int)) (ao bo : Option Addr) (ca cb : Nat) (w : World) (bb base : Nat) (vi vm : Value) (I : List (Value × Int)) (next : Int) (hB : IBook w bb base vi vm I next) (hbase : base ≤ w.heap.size) (hI : I.length ≤ 100000000000) (hx1 : -1000000000000 ≤ next) (hx2 : next ≤ 0)
    (hT : Terms w ao ts) (hP : Pairs w bo ps) (h1 : ts.length * 32 ≤ 140737488351232) (h2 : ps.length * 16 ≤ 140737488351232) (hW : ∀ i, i < ts.length → TmWf (tm ts i)) :
    Calls Try.prog 8 #[.pointer (some ⟨bb, 0, none⟩), .slice ao ts.length ca, .slice bo ps.length cb] w (BookPost w bb base I.length next) := by
  have HT : Hid (Terms w ao ts) := hT
  have HP : Hid (Pairs w bo ps) := hP
  have HW : Hid (∀ i, i < ts.length → TmWf (tm ts i)) := hW
  have HB : Hid (IBook w bb base vi vm I next) := hB
  clear hT hP hW hB
  obtain ⟨i0, hi, hz0, hz1, hz2⟩ := zinfo_parts infoTm
  have HI : Hid (i0.zero = some (.agg #[.int .i64 0, .int .i64 0, .int .i64 0, .int .i64 0]) ∧ i0.size = 4 ∧ i0.bytes = 32 ∧ Try.prog.info? 40 = some i0) := ⟨hz0, hz1, hz2, hi⟩
  clear hi hz0 hz1 hz2
  obtain ⟨i1, hi, hz0, hz1, hz2⟩ := zinfo_parts infoPr
  have HJ : Hid (i1.zero = some (.agg #[.int .i64 0, .int .i64 0]) ∧ i1.size = 2 ∧ i1.bytes = 16 ∧ Try.prog.info? 42 = some i1) := ⟨hz0, hz1, hz2, hi⟩
  clear hi hz0 hz1 hz2
  go_enter Try.func8, Try.ntmps8
  go_wp2
  go_loopw [7, 8] (fun v j wr => ∃ k : Nat, k ≤ ts.length ∧ j = .int .i64 k ∧ wr.ownsRow w.heap.size 40 4 v k (tcells (ts.take k)) ∧ Below w.heap.size w wr) (fun _ j _ => ts.length - (intOf j).toNat)
  case atStart => exact ⟨0, Nat.zero_le _, rfl, World.ownsRow_nil _ _ _ _, Bl.refl _⟩
  case round =>
    obtain ⟨k, hk, rfl, hown, hbr⟩ := hrel
    by_cases hlt : k < ts.length
    · obtain ⟨bl, off, rfl, hbs, c0, c1, c2, c3⟩ := HT.out.below hbr k hlt
      have hsz := hbr.size
      go_wp2_with (at_builtin; refine wpList_append_own _ rfl _ _ 36 rfl w.heap.size 40 i0 _ 4 32 underTms HI.out.2.2.2 HI.out.1 HI.out.2.1 HI.out.2.2.1 rfl (by decide) _ _ _ rfl (hown.alloc _) ⟨wr.heap.size, 0, none⟩ 1 1 [.int .i64 ts[k].op, .int .i64 ts[k].k, .int .i64 ts[k].a, .int .i64 ts[k].b] rfl rfl ?c1 ?c2 ?c3 ?c4 ?c5 ?_)
      case c1 =>
        intro j u hj
        match j, hj with
        | 0, hj => simp at hj; subst hj; simp [Addr.add, go_sem]
        | 1, hj => simp at hj; subst hj; simp [Addr.add, go_sem]
        | 2, hj => simp at hj; subst hj; simp [Addr.add, go_sem]
        | 3, hj => simp at hj; subst hj; simp [Addr.add, go_sem]
        | j + 4, hj => simp at hj
      case c2 => intro u hu; simp at hu; rcases hu with rfl | rfl | rfl | rfl <;> rfl
      case c3 => unfold maxLen; omega
      case c4 => omega
      case c5 => simp; omega
      intro v' w1 hown' hgrow _
      have hTT : tcells (ts.take (k + 1)) = tcells (ts.take k) ++ [.int .i64 ts[k].op, .int .i64 ts[k].k, .int .i64 ts[k].a, .int .i64 ts[k].b] := by
        rw [List.take_succ_eq_append_getElem hlt, tcells_app]; rfl
      rw [← hTT] at hown'
      clear hTT
      have hb1 : Below w.heap.size w w1 := (hbr.alloc hsz _).grown hgrow (by simp; omega) (fun j e => (hown.lt j e).1)
      clear hgrow hown c0 c1 c2 c3
      go_wp2
      go_roundw
      case rel => exact ⟨k + 1, by omega, by go_num, hown', hb1⟩
      case measure => simp [intOf]; omega
    · have hkl : k = ts.length := by omega
      subst hkl
      rw [List.take_length] at hown
      obtain ⟨tao, tcap, rfl, hN⟩ := terms_of_owns hown
      have HT1 : Hid (Terms wr tao ts) := hN
      have HB1 : Hid (Below w.heap.size w wr) := hbr
      clear hlt hown hN hbr hk
      rename World => w1
      go_wp2
      go_loopw [9, 10] (fun v j wr => ∃ k : Nat, k ≤ ps.length ∧ j = .int .i64 k ∧ wr.ownsRow w1.heap.size 42 2 v k (pcells (ps.take k)) ∧ Below w1.heap.size w1 wr) (fun _ j _ => ps.length - (intOf j).toNat)
      case atStart => exact ⟨0, Nat.zero_le _, rfl, World.ownsRow_nil _ _ _ _, Bl.refl _⟩
      case round =>
        obtain ⟨k, hk, rfl, hown, hbr⟩ := hrel
        by_cases hlt : k < ps.length
        · obtain ⟨bl, off, rfl, hbs, c0, c1⟩ := (HP.out.below HB1.out).below hbr k hlt
          have hsz := hbr.size
          go_wp2_with (at_builtin; refine wpList_append_own _ rfl _ _ 37 rfl w1.heap.size 42 i1 _ 2 16 underPrs HJ.out.2.2.2 HJ.out.1 HJ.out.2.1 HJ.out.2.2.1 rfl (by decide) _ _ _ rfl (hown.alloc _) ⟨wr.heap.size, 0, none⟩ 1 1 [.int .i64 ps[k].1, .int .i64 ps[k].2] rfl rfl ?c1 ?c2 ?c3 ?c4 ?c5 ?_)
          case c1 =>
            intro j u hj
            match j, hj with
            | 0, hj => simp at hj; subst hj; simp [Addr.add, go_sem]
            | 1, hj => simp at hj; subst hj; simp [Addr.add, go_sem]
            | j + 2, hj => simp at hj
          case c2 => intro u hu; simp at hu; rcases hu with rfl | rfl <;> rfl
          case c3 => unfold maxLen; omega
          case c4 => omega
          case c5 => simp; omega
          intro v' w2 hown' hgrow _
          have hTT : pcells (ps.take (k + 1)) = pcells (ps.take k) ++ [.int .i64 ps[k].1, .int .i64 ps[k].2] := by
            rw [List.take_succ_eq_append_getElem hlt, pcells_app]; rfl
          rw [← hTT] at hown'
          clear hTT
          have hb1 : Below w1.heap.size w1 w2 := (hbr.alloc hsz _).grown hgrow (by simp; omega) (fun j e => (hown.lt j e).1)
          clear hgrow hown c0 c1
          go_wp2
          go_roundw
          case rel => exact ⟨k + 1, by omega, by go_num, hown', hb1⟩
          case measure => simp [intOf]; omega
        · have hkl : k = ps.length := by omega
          subst hkl
          rw [List.take_length] at hown
          obtain ⟨pao, pcap, rfl, hN⟩ := pairs_of_owns hown
          have HP1 : Hid (Pairs wr pao ps) := hN
          have HT2 : Hid (Terms wr tao ts) := HT1.out.below hbr
          have HB2 : Hid (Below w.heap.size w wr) := Bl.trans HB1.out hbr
          clear hlt hown hN hbr hk HT1 HB1
          rename World => w2
          cases hg : mayBe ts ps
          · have HG : Hid (mayBe ts ps = false) := hg
            clear hg
            go_wp2_with fail
            refine (tjoin_no ts ps tao pao tcap pcap _ HT2.out HP1.out h1 h2 HG.out).mono ?_
            rintro e w3 ⟨rfl, hb3⟩
            have HB3 : Hid (Below w.heap.size w w3) := Bl.trans HB2.out hb3
            have HT3 : Hid (Terms w3 tao ts) := HT2.out.below hb3
            have HP3 : Hid (Pairs w3 pao ps) := HP1.out.below hb3
            clear hb3 HB2 HT2 HP1
            go_wp2_with fail
            refine (rjoin_any ts ps ao bo ca cb _ (HT.out.below HB3.out) (HP.out.below HB3.out) h1 h2).mono ?_
            rintro e w4 hJ
            rcases hJ with ⟨_, rfl, hb4⟩ | ⟨hno, _⟩
            · have HB4 : Hid (Below w.heap.size w w4) := Bl.trans HB3.out hb4
              have HT4 : Hid (Terms w4 tao ts) := HT3.out.below hb4
              have HP4 : Hid (Pairs w4 pao ps) := HP3.out.below hb4
              have HTo4 : Hid (Terms w4 ao ts) := HT.out.below HB4.out
              have HPo4 : Hid (Pairs w4 bo ps) := HP.out.below HB4.out
              have HV : Hid (w4.ownsRow base 3 1 (.slice none 0 0) 0 []) := World.ownsRow_nil _ _ _ _
              have HVg : Hid (∀ g, (Value.slice none 0 0).ownBlock = some g → w.heap.size ≤ g) := fun g e => (by cases e)
              clear hb4 HB3 HT3 HP3
              go_wp2_with fail
              refine (sameInts_refl [] none none 0 0 _ (fun j h => absurd h (Nat.not_lt_zero _)) (fun j h => absurd h (Nat.not_lt_zero _)) (by simp)).mono ?_
              rintro e w5 ⟨rfl, q5, rfl⟩
              go_wp2
              go_loopw [15, 16] (fun rv j wr => ∃ k : Nat, rv = .bool true ∧ j = .int .i64 k ∧ k ≤ ts.length ∧ ∃ q, wr = w4.drewN q) (fun _ j _ => ts.length - (intOf j).toNat)
              case atStart => exact ⟨0, rfl, rfl, Nat.zero_le _, _, rfl⟩
              case round =>
                obtain ⟨k, rfl, rfl, hk, q, rfl⟩ := hrel
                by_cases hlt : k < ts.length
                · obtain ⟨b1, o1, rfl, hb1, c0, c1, c2, c3⟩ := HT4.out k hlt
                  obtain ⟨b2, o2, rfl, hb2, d0, d1, d2, d3⟩ := HTo4.out k hlt
                  have hr := run_eql_tm ts[k]
                  have hgd : ∀ (x y : Operand) xs ys w, (eqGuard .eql 40 x y (.agg xs) (.agg ys)).run Try.prog w = .ok () w := fun x y xs ys w => run_eqGuard_agg w _ _ x y xs ys guardTm
                  go_wp2
                  go_quiet ((fail))
                  go_wp2
                  go_roundw
                  case rel => exact ⟨k + 1, rfl, by go_num, by omega, _, rfl⟩
                  case measure => simp [intOf]; omega
                · have hke : k = ts.length := by omega
                  subst hke
                  clear hk hlt
                  go_wp2
                  go_loopw [15, 17] (fun rv j wr => ∃ k : Nat, rv = .bool true ∧ j = .int .i64 k ∧ k ≤ ps.length ∧ ∃ q, wr = w4.drewN q) (fun _ j _ => ps.length - (intOf j).toNat)
                  case atStart => exact ⟨0, rfl, rfl, Nat.zero_le _, _, rfl⟩
                  case round =>
                    obtain ⟨k, rfl, rfl, hk, q, rfl⟩ := hrel
                    by_cases hlt : k < ps.length
                    · obtain ⟨b1, o1, rfl, hb1, c0, c1⟩ := HP4.out k hlt
                      obtain ⟨b2, o2, rfl, hb2, d0, d1⟩ := HPo4.out k hlt
                      have hr := run_eql_pr ps[k]
                      have hgd : ∀ (x y : Operand) xs ys w, (eqGuard .eql 42 x y (.agg xs) (.agg ys)).run Try.prog w = .ok () w := fun x y xs ys w => run_eqGuard_agg w _ _ x y xs ys guardPr
                      go_wp2
                      go_quiet ((fail))
                      go_wp2
                      go_roundw
                      case rel => exact ⟨k + 1, rfl, by go_num, by omega, _, rfl⟩
                      case measure => simp [intOf]; omega
                    · have hke : k = ps.length := by omega
                      subst hke
                      clear hk hlt
                      go_wp2_with fail
                      refine (ownsInts_any _ bb base vi vm (.slice none 0 0) I next 0 [] ((HB.out.below HB4.out).below (Bl.drew (Bl.refl _) _)) (ownsRow_keeps (S := fun _ => False) HV.out (Keeps.of_below (Bl.drew (Bl.refl _) _)) fun _ _ => id) (by omega) hI hx1 hx2 ?_ ?_).mono ?_
                      · intro x hx g' e e2
                        have h1 := HB.out.ll x hx g' e
                        have h2 := HVg.out g' e2
                        omega
                      · intro g' e e2
                        have h1 := (HB.out.own_lt g' e2).2
                        have h2 := HVg.out g' e
                        omega
                      rintro e w7 ⟨rfl, hO⟩
                      have HE : Hid ((∃ vi vm I', IBook w7 bb base vi vm I' (next - 1) ∧ I'.length = I.length + 4) ∧ Below base w w7) := book_end HB.out (Bl.drew HB4.out _) hbase HVg.out hO
                      clear hO
                      go_wp2_with fail
                      refine (num_any _ _).mono ?_
                      rintro e w8 ⟨rfl, hw8⟩
                      obtain rfl := hw8.symm
                      go_wp2
                      go_ret
                      exact ⟨rfl, HE.out.1, HE.out.2⟩
            · rw [HG.out] at hno; cases hno.out
          · have HG : Hid (mayBe ts ps = true) := hg
            clear hg
            have hl200 := (right_of HG.out).n
            go_wp2_with fail
            refine (tjoin_yes ts ps tao pao tcap pcap _ HT2.out HP1.out HG.out HW.out).mono ?_
            rintro e w3 ⟨g, r, rfl, hgw, hF, hBest, hb3⟩
            have HB3 : Hid (Below w.heap.size w w3) := Bl.trans HB2.out hb3
            have HT3 : Hid (Terms w3 tao ts) := HT2.out.below hb3
            have HP3 : Hid (Pairs w3 pao ps) := HP1.out.below hb3
            have HF3 : Hid (FAt w3 g ts.length r ∧ Best ts ps r) := ⟨hF, hBest⟩
            have HVg : Hid (∀ g', (Value.slice (some ⟨g, 0, none⟩) ts.length ts.length).ownBlock = some g' → w.heap.size ≤ g') := fun g' e => (by rw [own_slice] at e; cases e; exact Nat.le_trans HB2.out.size hgw)
            clear hb3 HB2 HT2 HP1 hF hBest hgw
            go_wp2_with fail
            refine (rjoin_any ts ps ao bo ca cb _ (HT.out.below HB3.out) (HP.out.below HB3.out) h1 h2).mono ?_
            rintro e w4 hJ
            rcases hJ with ⟨hno, _⟩ | ⟨_, lo, lc, r', rfl, hL, hB', hb4⟩
            · rw [HG.out] at hno; cases hno.out
            · have HB4 : Hid (Below w.heap.size w w4) := Bl.trans HB3.out hb4
              have HT4 : Hid (Terms w4 tao ts) := HT3.out.below hb4
              have HP4 : Hid (Pairs w4 pao ps) := HP3.out.below hb4
              have HTo4 : Hid (Terms w4 ao ts) := HT.out.below HB4.out
              have HPo4 : Hid (Pairs w4 bo ps) := HP.out.below HB4.out
              have hF4 : FAt w4 g ts.length r := HF3.out.1.keeps (S := fun _ => False) (Keeps.of_below hb4) id
              have HV : Hid (w4.ownsRow base 3 1 (.slice (some ⟨g, 0, none⟩) ts.length ts.length) ts.length ((List.range ts.length).map fun i => .int .i64 (r i : Int))) := hF4.row (Nat.le_trans hbase (HVg.out g rfl))
              have HI1 : Hid (Ints w4 (some ⟨g, 0, none⟩) ((List.range ts.length).map fun i => (r i : Int))) := fun j hj => ⟨g, 0, rfl, hF4.lt, by
                have hj' : j < ts.length := by simpa using hj
                rw [Nat.zero_add, hF4.cell hj']; simp⟩
              have HI2 : Hid (Ints w4 lo ((List.range ts.length).map fun i => (r i : Int))) := fun j hj => by
                have hj' : j < ts.length := by simpa using hj
                obtain ⟨g2, rfl, hA⟩ := hL (by omega)
                refine ⟨g2, 0, rfl, hA.lt, ?_⟩
                rw [Nat.zero_add, hA.cell hj', hB'.unique HF3.out.2 j]
                simp
              have hll : ((List.range ts.length).map fun i => (r i : Int)).length = ts.length := by simp
              have HS := sameInts_refl ((List.range ts.length).map fun i => (r i : Int)) (some ⟨g, 0, none⟩) lo ts.length lc _ HI1.out HI2.out (by rw [hll]; omega)
              rw [hll] at HS
              have HSS : Hid (Calls Try.prog 14 #[.slice (some ⟨g, 0, none⟩) ts.length ts.length, .slice lo ts.length lc] w4 fun e w' => e = .returned (.bool true) ∧ ∃ n, w' = w4.drewN n) := HS
              clear hb4 HB3 HT3 HP3 HF3 hF4 hL hB' HI1 HI2 hll HS
              go_wp2_with fail
              refine HSS.out.mono ?_
              rintro e w5 ⟨rfl, q5, rfl⟩
              clear HSS
              go_wp2
              go_loopw [15, 16] (fun rv j wr => ∃ k : Nat, rv = .bool true ∧ j = .int .i64 k ∧ k ≤ ts.length ∧ ∃ q, wr = w4.drewN q) (fun _ j _ => ts.length - (intOf j).toNat)
              case atStart => exact ⟨0, rfl, rfl, Nat.zero_le _, _, rfl⟩
              case round =>
                obtain ⟨k, rfl, rfl, hk, q, rfl⟩ := hrel
                by_cases hlt : k < ts.length
                · obtain ⟨b1, o1, rfl, hb1, c0, c1, c2, c3⟩ := HT4.out k hlt
                  obtain ⟨b2, o2, rfl, hb2, d0, d1, d2, d3⟩ := HTo4.out k hlt
                  have hr := run_eql_tm ts[k]
                  have hgd : ∀ (x y : Operand) xs ys w, (eqGuard .eql 40 x y (.agg xs) (.agg ys)).run Try.prog w = .ok () w := fun x y xs ys w => run_eqGuard_agg w _ _ x y xs ys guardTm
                  go_wp2
                  go_quiet ((fail))
                  go_wp2
                  go_roundw
                  case rel => exact ⟨k + 1, rfl, by go_num, by omega, _, rfl⟩
                  case measure => simp [intOf]; omega
                · have hke : k = ts.length := by omega
                  subst hke
                  clear hk hlt
                  go_wp2
                  go_loopw [15, 17] (fun rv j wr => ∃ k : Nat, rv = .bool true ∧ j = .int .i64 k ∧ k ≤ ps.length ∧ ∃ q, wr = w4.drewN q) (fun _ j _ => ps.length - (intOf j).toNat)
                  case atStart => exact ⟨0, rfl, rfl, Nat.zero_le _, _, rfl⟩
                  case round =>
                    obtain ⟨k, rfl, rfl, hk, q, rfl⟩ := hrel
                    by_cases hlt : k < ps.length
                    · obtain ⟨b1, o1, rfl, hb1, c0, c1⟩ := HP4.out k hlt
                      obtain ⟨b2, o2, rfl, hb2, d0, d1⟩ := HPo4.out k hlt
                      have hr := run_eql_pr ps[k]
                      have hgd : ∀ (x y : Operand) xs ys w, (eqGuard .eql 42 x y (.agg xs) (.agg ys)).run Try.prog w = .ok () w := fun x y xs ys w => run_eqGuard_agg w _ _ x y xs ys guardPr
                      go_wp2
                      go_quiet ((fail))
                      go_wp2
                      go_roundw
                      case rel => exact ⟨k + 1, rfl, by go_num, by omega, _, rfl⟩
                      case measure => simp [intOf]; omega
                    · have hke : k = ps.length := by omega
                      subst hke
                      clear hk hlt
                      go_wp2_with fail
                      refine (ownsInts_any _ bb base vi vm (.slice (some ⟨g, 0, none⟩) ts.length ts.length) I next ts.length _ ((HB.out.below HB4.out).below (Bl.drew (Bl.refl _) _)) (ownsRow_keeps (S := fun _ => False) HV.out (Keeps.of_below (Bl.drew (Bl.refl _) _)) fun _ _ => id) (by omega) hI hx1 hx2 ?_ ?_).mono ?_
                      · intro x hx g' e e2
                        have h1 := HB.out.ll x hx g' e
                        have h2 := HVg.out g' e2
                        omega
                      · intro g' e e2
                        have h1 := (HB.out.own_lt g' e2).2
                        have h2 := HVg.out g' e
                        omega
                      rintro e w7 ⟨rfl, hO⟩
                      have HE : Hid ((∃ vi vm I', IBook w7 bb base vi vm I' (next - 1) ∧ I'.length = I.length + 4) ∧ Below base w w7) := book_end HB.out (Bl.drew HB4.out _) hbase HVg.out hO
                      clear hO
                      go_wp2_with fail
                      refine (num_any _ _).mono ?_
                      rintro e w8 ⟨rfl, hw8⟩
                      obtain rfl := hw8.symm
                      go_wp2
                      go_ret
                      exact ⟨rfl, HE.out.1, HE.out.2⟩
end Go.Proofs.Ytanlmfcllebopaa
