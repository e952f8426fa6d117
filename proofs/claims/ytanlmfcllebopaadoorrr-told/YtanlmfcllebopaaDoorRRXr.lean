/- texts.Print, thrift.Print, walked. -/
import Derived.Test.YtanlmfcllebopaaDoorRRXq
import Derived.Test.YtanlmfcllebopaaDoorRRXo
import Derived.Test.YtanlmfcllebopaaDoorRRWi
import Derived.Lib.LaidTab
import Derived.Lib.ItoaMem
import Derived.LaidMore
namespace Go.Proofs.YtanlmfcllebopaaDoorRR
open Go.RowKit

theorem gPow : Tryd.prog.globalNamed "internal/strconv.uint64pow10" = some 0 := by kernel_rfl
theorem tab_below {W W' : World} (h : Lib.TabIs Tryd.prog W "internal/strconv.uint64pow10" .u64 Lib.pow10Tab) (hb : Below W.heap.size W W') : Lib.TabIs Tryd.prog W' "internal/strconv.uint64pow10" .u64 Lib.pow10Tab := by
  have hlt : 0 < W.heap.size := World.block_lt_of_cell? W _ (h.cell gPow 0 (by decide))
  exact var?_below hb gPow hlt h
theorem block_kept {b k : Nat} {t : TypeId} {w w' : World} (h : Lib.OthersKept 5 (some b) w w') (ht : TyAt w k t) (hne : t ≠ 5) (hkb : k ≠ b) : w'.heap[k]? = w.heap[k]? := by
  obtain ⟨c, fz, hc⟩ := ht
  rw [h k _ hc (by simpa using hkb) (fun c' fz' e => by simp only [Obj.cells.injEq] at e; exact hne e.2.1), hc]
theorem NdCell.ofBlock {w w' : World} {b : Nat} {n : Nd} (h : NdCell w b n) (hs : w.heap.size ≤ w'.heap.size) (hb : w'.heap[b]? = w.heap[b]?) : NdCell w' b n := by
  obtain ⟨hlt, c0, c1, c2, c3, c4, c5, hf⟩ := h
  refine ⟨Nat.lt_of_lt_of_le hlt hs, ?_, ?_, ?_, ?_, ?_, ?_, fun j => ?_⟩
  · exact (World.cell?_of_block (a := ⟨b, 0, none⟩) hb).trans c0
  · exact (World.cell?_of_block (a := ⟨b, 1, none⟩) hb).trans c1
  · exact (World.cell?_of_block (a := ⟨b, 2, none⟩) hb).trans c2
  · exact (World.cell?_of_block (a := ⟨b, 3, none⟩) hb).trans c3
  · exact (World.cell?_of_block (a := ⟨b, 4, none⟩) hb).trans c4
  · exact (World.cell?_of_block (a := ⟨b, 5, none⟩) hb).trans c5
  · exact (World.frozen?_of_block (a := ⟨b, j, none⟩) hb).trans (hf j)
theorem KindCell.ofBlock {w w' : World} {kb b : Nat} {op : Int} (h : KindCell w kb op b) (hs : w.heap.size ≤ w'.heap.size) (hb : w'.heap[kb]? = w.heap[kb]?) : KindCell w' kb op b := by
  obtain ⟨hlt, c0, c1, c2, c3, c4⟩ := h
  refine ⟨Nat.lt_of_lt_of_le hlt hs, ?_, ?_, ?_, ?_, ?_⟩
  · exact (World.cell?_of_block (a := ⟨kb, 0, none⟩) hb).trans c0
  · exact (World.cell?_of_block (a := ⟨kb, 1, none⟩) hb).trans c1
  · exact (World.cell?_of_block (a := ⟨kb, 2, none⟩) hb).trans c2
  · exact (World.cell?_of_block (a := ⟨kb, 3, none⟩) hb).trans c3
  · exact (World.cell?_of_block (a := ⟨kb, 4, none⟩) hb).trans c4
theorem SaysAt.ofBlock {w w' : World} {b : Nat} {op : Int} (h : SaysAt w b op) (hs : w.heap.size ≤ w'.heap.size) (hb : w'.heap[b]? = w.heap[b]?) : SaysAt w' b op :=
  ⟨Nat.lt_of_lt_of_le h.1 hs, fun j hj => (World.cell?_of_block (a := ⟨b, j, none⟩) hb).trans (h.2 j hj)⟩
theorem TyAt.ofBlock {w w' : World} {k : Nat} {t : TypeId} (h : TyAt w k t) (hb : w'.heap[k]? = w.heap[k]?) : TyAt w' k t := by
  obtain ⟨c, fz, hc⟩ := h; exact ⟨c, fz, hb.trans hc⟩
/-- a node, what is known of its Op, and the list of its fields, each in a block of its own -/
def Boxes (w : World) (nb kb sb : Nat) (op : Int) (n : Nd) : Prop := (NdCell w nb n ∧ KindCell w kb op sb ∧ SaysAt w sb op) ∧ TyAt w nb 25 ∧ TyAt w kb 57 ∧ TyAt w sb 70
theorem Boxes.below {w w' : World} {nb kb sb : Nat} {op : Int} {n : Nd} (h : Boxes w nb kb sb op n) (hb : Below w.heap.size w w') : Boxes w' nb kb sb op n :=
  ⟨⟨h.1.1.below hb, h.1.2.1.below hb, h.1.2.2.below hb⟩, h.2.1.below hb, h.2.2.1.below hb, h.2.2.2.below hb⟩
theorem Boxes.kept {w w' : World} {nb kb sb b : Nat} {op : Int} {n : Nd} (h : Boxes w nb kb sb op n) (hs : w.heap.size ≤ w'.heap.size) (hk : Lib.OthersKept 5 (some b) w w') (h1 : nb ≠ b) (h2 : kb ≠ b) (h3 : sb ≠ b) : Boxes w' nb kb sb op n := by
  have e1 := block_kept hk h.2.1 (by decide) h1
  have e2 := block_kept hk h.2.2.1 (by decide) h2
  have e3 := block_kept hk h.2.2.2 (by decide) h3
  exact ⟨⟨h.1.1.ofBlock hs e1, h.1.2.1.ofBlock hs e2, h.1.2.2.ofBlock hs e3⟩, h.2.1.ofBlock e1, h.2.2.1.ofBlock e2, h.2.2.2.ofBlock e3⟩
/-- the builder in block b holds the bytes l -/
def Txt (w : World) (b : Nat) (l : List UInt8) : Prop := Lib.IsBuilderF 65 5 b b (Lib.byteCells l) w
theorem Txt.below {w w' : World} {b : Nat} {l : List UInt8} (h : Txt w b l) (hb : Below w.heap.size w w') : Txt w' b l := by
  have aux : ∀ p, Lib.BuilderAtF 65 5 b b p (Lib.byteCells l) w → Lib.BuilderAtF 65 5 b b p (Lib.byteCells l) w' := by
    rintro p ⟨h1, v, h2, h3, h4⟩
    have hlt : b < w.heap.size := by
      rcases Nat.lt_or_ge b w.heap.size with h' | h'
      · exact h'
      · rw [Array.getElem?_eq_none h'] at h2; cases h2
    exact ⟨h1, v, (hb.block b hlt).trans h2, h3.kept (row := none) ⟨hb.os, hb.tape, hb.output, hb.size, fun k hk _ => hb.block k hk⟩ (by cases v.ownBlock <;> simp), h4⟩
  rcases h with h | h
  · exact .inl (aux _ h)
  · exact .inr (aux _ h)
theorem Txt.new (w : World) : Txt (w.alloc (.cells #[.pointer none, .slice none 0 0] 65)) w.heap.size [] :=
  .inl ⟨Nat.le_refl _, _, heap_alloc_new w _, World.ownsRowF_nil _ _ _ _, by simp [Value.ownBlock]⟩
theorem Txt.ne {w : World} {b k : Nat} {l : List UInt8} {t : TypeId} (h : Txt w b l) (ht : TyAt w k t) (hne : t ≠ 65) : k ≠ b := by
  rintro rfl
  obtain ⟨c, fz, hc⟩ := ht
  rcases h with ⟨_, v, h2, _⟩ | ⟨_, v, h2, _⟩
  · rw [hc] at h2; simp only [Option.some.injEq, Obj.cells.injEq] at h2; exact hne h2.2.1
  · rw [hc] at h2; simp only [Option.some.injEq, Obj.cells.injEq] at h2; exact hne h2.2.1
theorem write_txt (b : Nat) (l s : List UInt8) (w : World) (h : Txt w b l) (hlen : l.length + s.length ≤ 100000) (hb : b ≤ w.heap.size) :
    Calls Tryd.prog 26 #[.pointer (some ⟨b, 0, none⟩), .string (bs s)] w fun e w' => (∃ n, e = .returned (.tuple #[.int .i64 n, .nilIface])) ∧ Txt w' b (l ++ s) ∧ Below b w w' ∧ Lib.OthersKept 5 (some b) w w' := by
  refine (writeString_k b b (Lib.byteCells l) (bs s) w h ?_ hb).mono ?_
  · rw [Lib.byteCells_length, bs_size]; omega
  rintro e w' ⟨rfl, h1, h2, h3⟩
  refine ⟨⟨_, rfl⟩, .inr ?_, h2, h3⟩
  have e : Lib.byteCells l ++ Lib.strCells (bs s) = Lib.byteCells (l ++ s) := by
    rw [show Lib.strCells (bs s) = Lib.byteCells s from rfl]; simp [Lib.byteCells]
  rw [← e]; exact h1
theorem grow_below (w : World) (k : Nat) (os : Array Obj) : Below w.heap.size w (Go.Sort.grow (w.drewN k) os) :=
  ⟨rfl, rfl, rfl, by simp [Go.Sort.grow, World.drewN], fun i hi => by simp [Go.Sort.grow, World.drewN, Array.getElem?_append_left hi]⟩
theorem itoa_txt (x : Int) (w : World) (h : inInt x) (ht : Lib.TabIs Tryd.prog w "internal/strconv.uint64pow10" .u64 Lib.pow10Tab) :
    Calls Tryd.prog 27 #[.int .i64 x] w fun e w' => e = .returned (.string (bs (Lib.itoa x))) ∧ Below w.heap.size w w' :=
  (Tryd.strconv_Itoa x h.1 h.2 w ht).mono (by rintro e w' ⟨rfl, k, os, rfl⟩; exact ⟨rfl, grow_below w k os⟩)
/-- a line's text up to its field k -/
def lineTo (n : Nd) (k : Nat) : List UInt8 := wordL n.op ++ ((saysZ n.op).take k).flatMap (fun f => 32 :: Lib.itoa (ofZ f n))
theorem says_nums {n : Nd} (h : knownP n.op) : (saysZ n.op).map (fun f => ofZ f n) = numsOf n := by
  obtain ⟨op, a, b, k, r, c⟩ := n
  simp only [knownP] at h
  rcases h with rfl | rfl | rfl | rfl | rfl | rfl | rfl | rfl <;> rfl
theorem lineTo_all {n : Nd} (h : knownP n.op) : lineTo n (saysZ n.op).length ++ [10] = lineL n := by
  rw [lineTo, lineL, ← says_nums h, List.take_length, List.flatMap_map]
theorem lineTo_step (n : Nd) (k : Nat) (h : k < (saysZ n.op).length) : lineTo n (k + 1) = lineTo n k ++ (32 :: Lib.itoa (ofZ (saysZ n.op)[k] n)) := by
  rw [lineTo, lineTo, List.take_succ_eq_append_getElem h, List.flatMap_append]; simp
theorem lineTo_len {n : Nd} (h : knownP n.op) (hw : NdWf n) (k : Nat) : (lineTo n k).length ≤ 120 := by
  have h1 := line_len n hw
  rw [← lineTo_all h, List.length_append] at h1
  have h2 : (lineTo n k).length ≤ (lineTo n (saysZ n.op).length).length := by
    rw [lineTo, lineTo, List.length_append, List.length_append, List.take_length]
    have : (saysZ n.op).flatMap (fun f => 32 :: Lib.itoa (ofZ f n)) = ((saysZ n.op).take k).flatMap (fun f => 32 :: Lib.itoa (ofZ f n)) ++ ((saysZ n.op).drop k).flatMap (fun f => 32 :: Lib.itoa (ofZ f n)) := by
      rw [← List.flatMap_append, List.take_append_drop]
    rw [this, List.length_append]; omega
  omega
theorem of_in {f : Int} {n : Nd} (h : NdWf n) : inInt (ofZ f n) := by
  obtain ⟨h1, h2, h3, h4, h5, h6⟩ := h
  unfold ofZ; repeat' split
  all_goals assumption
theorem known_tyl (op : Int) (w : World) (ho : knownP op) :
    Calls Tryd.prog 23 #[.int .i64 op] w fun e w' => ∃ b, e = .returned (.tuple #[.agg #[.string (bs (wordL op)), .slice (some ⟨b, 0, none⟩) (saysZ op).length (saysZ op).length, .func (.func (shapeF op)) #[] #[], .func (.func (costF op)) #[] #[], .func (.func (atF op)) #[] #[]], .bool true]) ∧ SaysAt w' b op ∧ Below w.heap.size w w' ∧ TyAt w' b 70 := known_ty op w ho
set_option maxHeartbeats 4000000 in
set_option maxRecDepth 100000 in
theorem ptprint (ns : List Nd) (ao : Option Addr) (cap : Nat) (w : World) (hn : Nodes w ao ns) (hw : Wf ns) (ht : Lib.TabIs Tryd.prog w "internal/strconv.uint64pow10" .u64 Lib.pow10Tab) (hg : isGraphB ns = true) :
    Calls Tryd.prog 13 #[.slice ao ns.length cap] w fun e w' => e = .returned (.string (bs (printL ns))) ∧ Below w.heap.size w w' := by
  have h100 := len100 hg
  have HG : Hid (isGraphB ns = true) := hg
  have HT : Hid (Lib.TabIs Tryd.prog w "internal/strconv.uint64pow10" .u64 Lib.pow10Tab) := ht
  have HWF : Hid (Wf ns) := hw
  clear hg ht hw
  go_enter Tryd.func13, Tryd.ntmps13
  go_wp2
  go_loopw [12] (fun j wr => ∃ m : Nat, m ≤ ns.length ∧ j = .int .i64 m ∧ Hid (Txt wr w.heap.size (printL (ns.take m))) ∧ Below w.heap.size w wr ∧ w.heap.size < wr.heap.size) (fun j _ => ns.length - (intOf j).toNat)
  case atStart => exact ⟨0, Nat.zero_le _, rfl, Txt.new w, Bl.more (Bl.refl _) _, by simp⟩
  case round =>
    obtain ⟨m, hm, rfl, htx, hbr, hgw⟩ := hrel
    by_cases hlt : m < ns.length
    · have hN := hn.below hbr
      obtain ⟨bl, off, rfl, hbs, c0, c1, c2, c3, c4, c5⟩ := hN m hlt
      clear hN
      have hkn : knownP ns[m].op := op_range (ok_at HG.out m hlt)
      have HO : Hid (knownP ns[m].op) := hkn
      clear hkn
      have HPL : Hid ((printL (ns.take m)).length ≤ 12000) := by show (printL (ns.take m)).length ≤ 12000; have := print_len ns HWF.out m hm; omega
      have HLL : Hid (∀ k, (lineTo ns[m] k).length ≤ 120) := fun k => lineTo_len HO.out (HWF.out m hlt) k
      have HST : Hid (printL (ns.take (m + 1)) = printL (ns.take m) ++ (lineTo ns[m] (saysZ ns[m].op).length ++ [10])) := by rw [lineTo_all HO.out]; exact printL_step ns m hlt
      have hal := al1 hbs
      go_wp2_with fail
      refine (known_tyl _ _ HO.out).mono ?_
      rintro e w1 ⟨b, rfl, hs1, hb1, hty⟩
      have HBX : Hid (Boxes (w1.alloc (.cells #[.string (bs (wordL ns[m].op)), .slice (some ⟨b, 0, none⟩) (saysZ ns[m].op).length (saysZ ns[m].op).length, .func (.func (shapeF ns[m].op)) #[] #[], .func (.func (costF ns[m].op)) #[] #[], .func (.func (atF ns[m].op)) #[] #[]] 57)) wr.heap.size w1.heap.size b ns[m].op ns[m]) :=
        ⟨⟨((NdCell.new wr ns[m]).below hb1).below (Bl.more (Bl.refl _) _), KindCell.new w1 ns[m].op b, hs1.below (Bl.more (Bl.refl _) _)⟩, ((TyAt.new rfl _).below hb1).more _, TyAt.new rfl _, hty.more _⟩
      have HW1 : Hid (Below wr.heap.size wr w1) := Bl.trans (Bl.more (Bl.refl wr) _) hb1
      have HTX1 : Hid (Txt w1 w.heap.size (printL (ns.take m))) := htx.out.below HW1.out
      have hz1 := HW1.out.size
      have hbne : b ≠ w.heap.size := HTX1.out.ne hty (by decide)
      have hzz : wr.heap.size < w1.heap.size := by have := hb1.size; simp at this; omega
      clear hs1 hb1 hty hal c0 c1 c2 c3 c4 c5 htx
      obtain ⟨⟨⟨_, n0, n1, n2, n3, n4, n5, _⟩, ⟨_, k0, k1, k2, k3, k4⟩, _⟩, _⟩ := HBX.out
      go_wp2_with fail
      refine (write_txt w.heap.size (printL (ns.take m)) (wordL ns[m].op) _ ?_ ?_ ?_).mono ?_
      · exact HTX1.out.below (Bl.more (Bl.refl _) _)
      · have := HLL.out 0; have := HPL.out; simp [lineTo] at *; omega
      · simp; omega
      rintro e w2 ⟨⟨n', rfl⟩, htx2, hb2, hk2⟩
      have hz2 := hb2.size
      simp at hz2
      have HBX2 : Hid (Boxes w2 wr.heap.size w1.heap.size b ns[m].op ns[m]) := HBX.out.kept (by simp; omega) hk2 (by omega) (by omega) hbne
      have HW2 : Hid (Below w.heap.size w w2) := Below.trans (Bl.more (Bl.trans hbr HW1.out) _) hb2
      have HTX2 : Hid (Txt w2 w.heap.size (printL (ns.take m) ++ lineTo ns[m] 0)) := by
        have e : lineTo ns[m] 0 = wordL ns[m].op := by simp [lineTo]
        rw [e]; exact htx2
      clear htx2 hb2 hk2 n0 n1 n2 n3 n4 n5 k0 k1 k2 k3 k4 HBX HTX1
      obtain ⟨⟨_, ⟨_, k0, k1, k2, k3, k4⟩, _⟩, _⟩ := HBX2.out
      go_wp2
      clear k0 k1 k2 k3 k4
      have hnb1 : wr.heap.size ≠ w.heap.size := by omega
      have hsl := (says_len ns[m].op).2
      have hkb1 : w1.heap.size ≠ w.heap.size := by omega
      generalize hnb : wr.heap.size = nb at *
      generalize hkb : w1.heap.size = kb at *
      go_loopw [28] (fun i wk => ∃ k : Nat, k ≤ (saysZ ns[m].op).length ∧ i = .int .i64 k ∧ Hid (Txt wk w.heap.size (printL (ns.take m) ++ lineTo ns[m] k)) ∧ Hid (Boxes wk nb kb b ns[m].op ns[m]) ∧ Below w.heap.size w wk ∧ w2.heap.size ≤ wk.heap.size) (fun i _ => (saysZ ns[m].op).length - (intOf i).toNat)
      case atStart => exact ⟨0, Nat.zero_le _, rfl, HTX2.out, HBX2.out, HW2.out, Nat.le_refl _⟩
      case round =>
        obtain ⟨k, hk, rfl, htk, hbxk, hbk, hzk⟩ := hrel
        by_cases hlk : k < (saysZ ns[m].op).length
        · have cs := hbxk.out.1.2.2.2 k hlk
          have hf := says_mem ns[m].op k hlk
          have HLS : Hid (lineTo ns[m] (k + 1) = lineTo ns[m] k ++ (32 :: Lib.itoa (ofZ (saysZ ns[m].op)[k] ns[m]))) := lineTo_step ns[m] k hlk
          have hl1 := HLL.out k
          have hl2 := HLL.out (k + 1)
          rw [HLS.out, List.length_append, List.length_cons] at hl2
          have HLB : Hid ((lineTo ns[m] k).length + ((Lib.itoa (ofZ (saysZ ns[m].op)[k] ns[m])).length + 1) ≤ 120) := hl2
          clear hl1 hl2
          generalize (saysZ ns[m].op)[k] = f at *
          go_wp2_with fail
          refine (write_txt w.heap.size (printL (ns.take m) ++ lineTo ns[m] k) [32] _ htk.out ?_ ?_).mono ?_
          · have := HLB.out; have := HPL.out; simp at *; omega
          · omega
          rintro e w3 ⟨⟨n3, rfl⟩, htx3, hb3, hk3⟩
          have hz3 := hb3.size
          have HBX3 : Hid (Boxes w3 nb kb b ns[m].op ns[m]) := hbxk.out.kept hz3 hk3 hnb1 hkb1 hbne
          have HTX3 : Hid (Txt w3 w.heap.size (printL (ns.take m) ++ lineTo ns[m] k ++ [32])) := htx3
          have HW3 : Hid (Below w.heap.size w w3) := Below.trans hbk hb3
          clear htx3 hb3 hk3 cs
          obtain ⟨⟨⟨_, n0, n1, n2, n3', n4, n5, _⟩, _⟩, _⟩ := HBX3.out
          go_wp2_with fail
          refine (of_lit _ _ _ _ _ _ _ _ hf).mono ?_
          rintro e w4 ⟨x, hx, rfl, hb4⟩
          have HBX4 : Hid (Boxes w4 nb kb b ns[m].op ns[m]) := HBX3.out.below hb4
          have HTX4 : Hid (Txt w4 w.heap.size (printL (ns.take m) ++ lineTo ns[m] k ++ [32])) := HTX3.out.below hb4
          have HW4 : Hid (Below w.heap.size w w4) := Bl.trans HW3.out hb4
          have hz4 := hb4.size
          clear hb4 n0 n1 n2 n3' n4 n5
          go_wp2_with fail
          refine (itoa_txt x _ (by rw [hx.out]; exact of_in (HWF.out m hlt)) (tab_below HT.out HW4.out)).mono ?_
          rintro e w5 ⟨rfl, hb5⟩
          have HBX5 : Hid (Boxes w5 nb kb b ns[m].op ns[m]) := HBX4.out.below hb5
          have HTX5 : Hid (Txt w5 w.heap.size (printL (ns.take m) ++ lineTo ns[m] k ++ [32])) := HTX4.out.below hb5
          have HW5 : Hid (Below w.heap.size w w5) := Bl.trans HW4.out hb5
          have hz5 := hb5.size
          clear hb5
          go_wp2_with fail
          refine (write_txt w.heap.size (printL (ns.take m) ++ lineTo ns[m] k ++ [32]) (Lib.itoa x) _ HTX5.out ?_ ?_).mono ?_
          · have h1 := HLB.out
            have h2 := HPL.out
            have h3 : Lib.itoa x = Lib.itoa (ofZ f ns[m]) := by rw [hx.out]
            rw [h3]; simp only [List.length_append, List.length_cons, List.length_nil]; omega
          · omega
          rintro e w6 ⟨⟨n6, rfl⟩, htx6, hb6, hk6⟩
          have hz6 := hb6.size
          have HBX6 : Hid (Boxes w6 nb kb b ns[m].op ns[m]) := HBX5.out.kept hz6 hk6 hnb1 hkb1 hbne
          have HW6 : Hid (Below w.heap.size w w6) := Below.trans HW5.out hb6
          have HTX6 : Hid (Txt w6 w.heap.size (printL (ns.take m) ++ lineTo ns[m] (k + 1))) := by
            have e : printL (ns.take m) ++ lineTo ns[m] k ++ [32] ++ Lib.itoa x = printL (ns.take m) ++ lineTo ns[m] (k + 1) := by
              rw [HLS.out, hx.out]; simp [List.append_assoc]
            rw [← e]; exact htx6
          clear htx6 hb6 hk6
          go_wp2
          go_roundw
          case rel => exact ⟨k + 1, by omega, by go_num, HTX6.out, HBX6.out, HW6.out, by omega⟩
          case measure => simp [intOf]; omega
        · have hkl : k = (saysZ ns[m].op).length := by omega
          subst hkl
          go_wp2_with fail
          refine (write_txt w.heap.size (printL (ns.take m) ++ lineTo ns[m] (saysZ ns[m].op).length) [10] _ htk.out ?_ ?_).mono ?_
          · have := HLL.out (saysZ ns[m].op).length; have := HPL.out; simp at *; omega
          · omega
          rintro e w3 ⟨⟨n3, rfl⟩, htx3, hb3, hk3⟩
          have hz3 := hb3.size
          have HTX3 : Hid (Txt w3 w.heap.size (printL (ns.take (m + 1)))) := by
            rw [HST.out, ← List.append_assoc]; exact htx3
          have HW3 : Hid (Below w.heap.size w w3) := Below.trans hbk hb3
          clear htx3 hb3 hk3
          go_wp2
          exact ⟨⟨m + 1, by omega, by go_num, HTX3.out, HW3.out, by omega⟩, by simp [intOf]; omega⟩
    · have hml : m = ns.length := by omega
      subst hml
      rw [List.take_length] at htx
      go_wp2_with fail
      refine (Tryd.Builder_String_any_k w.heap.size w.heap.size (printL ns) _ htx.out (by omega)).mono ?_
      rintro e w2 ⟨rfl, _, hb2, _⟩
      go_wp2
      go_ret
      exact ⟨rfl, Below.trans hbr hb2⟩
set_option maxHeartbeats 400000 in
theorem pprint_yes (ns : List Nd) (ao : Option Addr) (cap : Nat) (w : World) (hn : Nodes w ao ns) (hw : Wf ns) (ht : Lib.TabIs Tryd.prog w "internal/strconv.uint64pow10" .u64 Lib.pow10Tab) (hg : isGraphB ns = true) :
    Calls Tryd.prog 6 #[.slice ao ns.length cap] w fun e w' => e = .returned (.tuple #[.string (bs (printL ns)), .int .i64 0]) ∧ Below w.heap.size w w' := by
  have HG : Hid (isGraphB ns = true) := hg
  have HT : Hid (Lib.TabIs Tryd.prog w "internal/strconv.uint64pow10" .u64 Lib.pow10Tab) := ht
  clear ht
  go_enter Tryd.func6, Tryd.ntmps6
  go_wp2_with (first | (go_at_call 12; refine (pIsGraph_any ns _ _ _ hn).mono ?_; rintro e w1 ⟨rfl, hb1⟩) | (go_at_call 13; refine (ptprint ns _ _ _ (hn.below hb1) hw (tab_below HT.out hb1) HG.out).mono ?_; rintro e w2 ⟨rfl, hb2⟩))
  go_ret2
  exact ⟨rfl, Bl.trans hb1 hb2⟩
end Go.Proofs.YtanlmfcllebopaaDoorRR
