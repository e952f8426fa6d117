/- graphs.Cost, walked. -/
import Derived.Test.YtanlmfcllebopaaDoorRRXh
import Derived.Test.YtanlmfcllebopaaDoorRRXk
import Derived.Test.YtanlmfcllebopaaDoorRRWk
namespace Go.Proofs.YtanlmfcllebopaaDoorRR
open Go.RowKit

def psum (l ps : List Int) : Nat → Int
  | 0 => 0
  | k + 1 => psum l ps k + l.getD (ps.getD k 0).toNat 0
theorem psum_bd {l ps : List Int} (hl : ∀ j, 0 ≤ l.getD j 0 ∧ l.getD j 0 ≤ 1000000000000) : ∀ k : Nat, 0 ≤ psum l ps k ∧ psum l ps k ≤ k * 1000000000000
  | 0 => by simp [psum]
  | k + 1 => by
    have h := psum_bd (ps := ps) hl k
    have h2 := hl (ps.getD k 0).toNat
    rw [psum]
    omega
theorem costs_bd0 (ns : List Nd) (hg : isGraphB ns = true) (m : Nat) (hm : m ≤ ns.length) (j : Nat) : 0 ≤ (costs ns m).getD j 0 ∧ (costs ns m).getD j 0 ≤ 1000000000000 := by
  by_cases h : j < m
  · exact costs_bd ns hg m hm j h
  · have : (costs ns m).getD j 0 = 0 := by simp [List.getD, List.getElem?_eq_none (show (costs ns m).length ≤ j by rw [costs_len]; omega)]
    rw [this]; omega
/-- the parts that a right node uses -/
theorem parts_of {n : Nd} (h : knownP n.op) : partsTo n.op n (saysZ n.op).length = (if partsZ n.op = 2 then [n.a, n.b] else if partsZ n.op = 1 then [n.a] else []) := by
  obtain ⟨op, a, b, k, r, c⟩ := n
  simp only [knownP] at h
  rcases h with rfl | rfl | rfl | rfl | rfl | rfl | rfl | rfl <;> rfl
theorem costStep_psum {ns : List Nd} {l : List Int} {n : Nd} (h : knownP n.op) :
    costStep ns l n = cappedZ (ownZ n.op n.rows n.cols (nth ns n.a).cols + psum l (partsTo n.op n (saysZ n.op).length) (partsTo n.op n (saysZ n.op).length).length) := by
  rw [parts_of h, costStep]
  rcases part_cases n.op with e | e | e <;> simp [e, psum, Int.add_assoc]
/-- the row of the trees' costs: those of the first m nodes, and noughts -/
def treesZ (ns : List Nd) (m : Nat) : List Int := costs ns m ++ List.replicate (ns.length - m) 0
theorem treesZ_len (ns : List Nd) (m : Nat) (h : m ≤ ns.length) : (treesZ ns m).length = ns.length := by
  simp [treesZ, costs_len]; omega
theorem treesZ_at (ns : List Nd) (m j : Nat) (h : j < m) : (treesZ ns m).getD j 0 = (costs ns m).getD j 0 := by
  simp only [treesZ, List.getD]
  rw [List.getElem?_append_left (by rw [costs_len]; exact h)]
theorem treesZ_set (ns : List Nd) (m : Nat) (h : m < ns.length) : (treesZ ns m).set m (costStep ns (costs ns m) ns[m]) = treesZ ns (m + 1) := by
  simp only [treesZ]
  rw [List.set_append_right _ _ (by rw [costs_len]; omega), costs_len, Nat.sub_self]
  have : ns.length - m = (ns.length - (m + 1)) + 1 := by omega
  rw [this, List.replicate_succ, List.set_cons_zero, costs, nth_at ns m h]
  simp
theorem parts_lt {ns : List Nd} {m : Nat} {n : Nd} (hk : knownP n.op) (h : nodeOk ns m n = true) : ∀ j, j < (partsTo n.op n (saysZ n.op).length).length → 0 ≤ (partsTo n.op n (saysZ n.op).length).getD j 0 ∧ (partsTo n.op n (saysZ n.op).length).getD j 0 < m := by
  obtain ⟨pa, pb, _⟩ := ok_parts h
  rw [parts_of hk]
  intro j hj
  rcases part_cases n.op with e | e | e
  · simp [e] at hj
  · simp [e] at hj ⊢
    subst hj
    exact pa (by omega)
  · simp [e] at hj ⊢
    have : j = 0 ∨ j = 1 := by omega
    rcases this with rfl | rfl
    · exact pa (by omega)
    · exact pb (by omega)
theorem look_two_c (ns : List Nd) (ao : Option Addr) (cap : Nat) (op : Int) (b : Nat) (n : Nd) (w : World) (hs : SaysAt w b op) (hn : Nodes w ao ns) (h1 : (1 : Int) ∈ saysZ op) (h2 : (2 : Int) ∈ saysZ op) (ha : 0 ≤ n.a ∧ n.a < ns.length) (hb : 0 ≤ n.b ∧ n.b < ns.length) (cf : Nat) (hcf : costF op = cf) :
    Calls Tryd.prog 31 #[.agg #[.string (bs (wordL op)), .slice (some ⟨b, 0, none⟩) (saysZ op).length (saysZ op).length, .func (.func (shapeF op)) #[] #[], .func (.func cf) #[] #[], .func (.func (atF op)) #[] #[]], .slice ao ns.length cap, .agg #[.int .i64 n.op, .int .i64 n.a, .int .i64 n.b, .int .i64 n.k, .int .i64 n.rows, .int .i64 n.cols]] w fun e w' =>
      e = .returned (.agg #[.int .i64 n.op, .int .i64 n.a, .int .i64 n.b, .int .i64 n.k, .int .i64 n.rows, .int .i64 n.cols, .int .i64 (nth ns n.a).rows, .int .i64 (nth ns n.a).cols, .int .i64 (nth ns n.b).rows, .int .i64 (nth ns n.b).cols]) ∧ Below w.heap.size w w' := by
  subst hcf; exact look_two ns ao cap op b n w hs hn h1 h2 ha hb
theorem look_one_c (ns : List Nd) (ao : Option Addr) (cap : Nat) (op : Int) (b : Nat) (n : Nd) (w : World) (hs : SaysAt w b op) (hn : Nodes w ao ns) (h1 : (1 : Int) ∈ saysZ op) (h2 : ¬ (2 : Int) ∈ saysZ op) (ha : 0 ≤ n.a ∧ n.a < ns.length) (cf : Nat) (hcf : costF op = cf) :
    Calls Tryd.prog 31 #[.agg #[.string (bs (wordL op)), .slice (some ⟨b, 0, none⟩) (saysZ op).length (saysZ op).length, .func (.func (shapeF op)) #[] #[], .func (.func cf) #[] #[], .func (.func (atF op)) #[] #[]], .slice ao ns.length cap, .agg #[.int .i64 n.op, .int .i64 n.a, .int .i64 n.b, .int .i64 n.k, .int .i64 n.rows, .int .i64 n.cols]] w fun e w' =>
      e = .returned (.agg #[.int .i64 n.op, .int .i64 n.a, .int .i64 n.b, .int .i64 n.k, .int .i64 n.rows, .int .i64 n.cols, .int .i64 (nth ns n.a).rows, .int .i64 (nth ns n.a).cols, .int .i64 0, .int .i64 0]) ∧ Below w.heap.size w w' := by
  subst hcf; exact look_one ns ao cap op b n w hs hn h1 h2 ha
theorem look_none_c (ns : List Nd) (ao : Option Addr) (cap : Nat) (op : Int) (b : Nat) (n : Nd) (w : World) (hs : SaysAt w b op) (hn : Nodes w ao ns) (h1 : ¬ (1 : Int) ∈ saysZ op) (h2 : ¬ (2 : Int) ∈ saysZ op) (cf : Nat) (hcf : costF op = cf) :
    Calls Tryd.prog 31 #[.agg #[.string (bs (wordL op)), .slice (some ⟨b, 0, none⟩) (saysZ op).length (saysZ op).length, .func (.func (shapeF op)) #[] #[], .func (.func cf) #[] #[], .func (.func (atF op)) #[] #[]], .slice ao ns.length cap, .agg #[.int .i64 n.op, .int .i64 n.a, .int .i64 n.b, .int .i64 n.k, .int .i64 n.rows, .int .i64 n.cols]] w fun e w' =>
      e = .returned (.agg #[.int .i64 n.op, .int .i64 n.a, .int .i64 n.b, .int .i64 n.k, .int .i64 n.rows, .int .i64 n.cols, .int .i64 0, .int .i64 0, .int .i64 0, .int .i64 0]) ∧ Below w.heap.size w w' := by
  subst hcf; exact look_none ns ao cap op b n w hs hn h1 h2
set_option maxHeartbeats 4000000 in
set_option maxRecDepth 100000 in
theorem pgcost (ns : List Nd) (ao : Option Addr) (cap : Nat) (w : World) (hn : Nodes w ao ns) (hg : isGraphB ns = true) :
    Calls Tryd.prog 20 #[.slice ao ns.length cap] w fun e w' => e = .returned (.int .i64 (costZ ns)) ∧ Below w.heap.size w w' := by
  have h100 := len100 hg
  have HG : Hid (isGraphB ns = true) := hg
  clear hg
  obtain ⟨i0, hi, hz0, hz1, hz2⟩ := info_parts infoInt
  have HI : Hid (i0.zero = some (.int .i64 0) ∧ i0.size = 1 ∧ i0.bytes = 8 ∧ Tryd.prog.info? 3 = some i0) := ⟨hz0, hz1, hz2, hi⟩
  clear hi hz0 hz1 hz2
  go_enter Tryd.func20, Tryd.ntmps20
  go_wp2_with (at_make; refine wpList_make_full _ rfl (.tmp 12) (.tmp 12) 45 rfl w.heap.size 3 i0 (.int .i64 0) 1 underInts HI.out.2.2.2 HI.out.1 HI.out.2.1 _ _ _ _ ns.length rfl rfl rfl rfl ?b2 ?b3 ?b4 ?_)
  case b2 => rw [HI.out.2.2.1]; omega
  case b3 => unfold maxLen; omega
  case b4 => exact Nat.le_refl _
  intro w0 hown0 hgrow0
  have hT0 : (madeCells #[.int .i64 0] ns.length).toList = (treesZ ns 0).map (Value.int .i64) := by
    rw [toList_madeCells_one]; simp [treesZ, costs]
  rw [hT0] at hown0
  have hb0 : Below w.heap.size w w0 := ⟨hgrow0.os, hgrow0.tape, hgrow0.output, hgrow0.size, fun k hk => hgrow0.block k hk (by simp)⟩
  clear hT0 hgrow0
  go_wp2
  go_loopw [16] (fun j wr => ∃ m : Nat, m ≤ ns.length ∧ j = .int .i64 m ∧ wr.ownsRow w.heap.size 3 1 (.slice (some ⟨w.heap.size, 0, none⟩) ns.length ns.length) ns.length ((treesZ ns m).map (Value.int .i64)) ∧ Below w.heap.size w wr) (fun j _ => ns.length - (intOf j).toNat)
  case atStart => exact ⟨0, Nat.zero_le _, rfl, hown0, hb0⟩
  case round =>
    clear hown0 hb0
    obtain ⟨m, hm, rfl, hown, hbr⟩ := hrel
    have HOWN : Hid (wr.ownsRow w.heap.size 3 1 (.slice (some ⟨w.heap.size, 0, none⟩) ns.length ns.length) ns.length ((treesZ ns m).map (Value.int .i64))) := hown
    clear hown
    have hgw : w.heap.size < wr.heap.size := (HOWN.out.lt _ rfl).2
    by_cases hlt : m < ns.length
    · have hN := hn.below hbr
      have HN : Hid (Nodes wr ao ns) := hN
      obtain ⟨bl, off, rfl, hbs, c0, c1, c2, c3, c4, c5⟩ := hN m hlt
      clear hN
      have hok := ok_at HG.out m hlt
      have hkn : knownP ns[m].op := op_range hok
      have HO : Hid (knownP ns[m].op) := hkn
      have HPL : Hid (∀ j, j < (partsTo ns[m].op ns[m] (saysZ ns[m].op).length).length → 0 ≤ (partsTo ns[m].op ns[m] (saysZ ns[m].op).length).getD j 0 ∧ (partsTo ns[m].op ns[m] (saysZ ns[m].op).length).getD j 0 < m) := parts_lt hkn hok
      have HP : Hid (nodeOk ns m ns[m] = true) := hok
      clear hok hkn
      have hal := al1 hbs
      go_wp2_with fail
      refine (known_lit _ _ HO.out).mono ?_
      rintro e w1 ⟨b, rfl, hs1, hb1⟩
      have HN1 : Hid (NdCell w1 wr.heap.size ns[m]) := NdCell.below (NdCell.new wr ns[m]) hb1
      have HW1 : Hid (Below wr.heap.size wr w1) := Bl.trans (Bl.more (Bl.refl wr) _) hb1
      have HS1 : Hid (SaysAt w1 b ns[m].op) := hs1
      clear hs1 hb1 hal c0 c1 c2 c3 c4 c5
      obtain ⟨z1, m0, m1, m2, m3, m4, m5, _⟩ := HN1.out
      have halb := al1 z1
      go_wp2
      go_cut [8] from 17 to 54 (fun s wc => s = .int .i64 (ownZ ns[m].op ns[m].rows ns[m].cols (nth ns ns[m].a).cols) ∧ NdCell wc wr.heap.size ns[m] ∧ KindCell wc w1.heap.size ns[m].op b ∧ SaysAt wc b ns[m].op ∧ Below wr.heap.size wr wc)
      case first =>
        obtain ⟨pa, pb, _⟩ := ok_parts HP.out
        obtain ⟨⟨s1, s2⟩, s3, s4⟩ := sides HG.out m hlt
        obtain ⟨_, _, i3, i4⟩ := inner_bd HG.out m hlt
        have hob := own_bd ns[m].op ns[m].rows ns[m].cols (nth ns ns[m].a).cols ⟨s1, s2⟩ ⟨s3, s4⟩ ⟨i3, i4⟩
        have HBD : Hid ((1 ≤ ns[m].rows ∧ ns[m].rows ≤ 4) ∧ (1 ≤ ns[m].cols ∧ ns[m].cols ≤ 4) ∧ (1 ≤ (nth ns ns[m].a).cols ∧ (nth ns ns[m].a).cols ≤ 4) ∧ (1 ≤ ns[m].rows * ns[m].cols ∧ ns[m].rows * ns[m].cols ≤ 16)) := ⟨⟨s1, s2⟩, ⟨s3, s4⟩, ⟨i3, i4⟩, hob.1⟩
        clear s1 s2 s3 s4 i3 i4 hob
        have hcases : (ns[m].op = 1 ∨ ns[m].op = 2) ∨ ns[m].op = 7 ∨ (ns[m].op = 6 ∨ ns[m].op = 8) ∨ (ns[m].op = 3 ∨ ns[m].op = 4 ∨ ns[m].op = 5) := by have := HO.out; simp only [knownP] at this; omega
        rcases hcases with (hop | hop) | hop | hop | hop
        · have hcf : Hid (costF ns[m].op = 34) := by show costF ns[m].op = _; simp [costF, hop]
          have k1 : Hid (¬ (1 : Int) ∈ saysZ ns[m].op) := by show ¬ (1 : Int) ∈ saysZ ns[m].op; simp [saysZ, hop]
          have k2 : Hid (¬ (2 : Int) ∈ saysZ ns[m].op) := by show ¬ (2 : Int) ∈ saysZ ns[m].op; simp [saysZ, hop]
          have HOWNZ : Hid (ownZ ns[m].op ns[m].rows ns[m].cols (nth ns ns[m].a).cols = 0) := by show ownZ _ _ _ _ = _; simp [ownZ, hop]
          clear pa pb hop
          rw [hcf.out]
          go_region_held3 (fun w' => w'.cell? ⟨w1.heap.size, 0, none⟩ = some (.string (bs (wordL ns[m].op))) ∧ w'.cell? ⟨w1.heap.size, 1, none⟩ = some (.slice (some ⟨b, 0, none⟩) (saysZ ns[m].op).length (saysZ ns[m].op).length) ∧ w'.cell? ⟨w1.heap.size, 2, none⟩ = some (.func (.func (shapeF ns[m].op)) #[] #[]) ∧ w'.cell? ⟨w1.heap.size, 3, none⟩ = some (.func (.func 34) #[] #[]) ∧ w'.cell? ⟨w1.heap.size, 4, none⟩ = some (.func (.func (atF ns[m].op)) #[] #[])
                ∧ w'.cell? ⟨wr.heap.size, 0, none⟩ = some (.int .i64 ns[m].op) ∧ w'.cell? ⟨wr.heap.size, 1, none⟩ = some (.int .i64 ns[m].a) ∧ w'.cell? ⟨wr.heap.size, 2, none⟩ = some (.int .i64 ns[m].b) ∧ w'.cell? ⟨wr.heap.size, 3, none⟩ = some (.int .i64 ns[m].k) ∧ w'.cell? ⟨wr.heap.size, 4, none⟩ = some (.int .i64 ns[m].rows) ∧ w'.cell? ⟨wr.heap.size, 5, none⟩ = some (.int .i64 ns[m].cols))
              (first | go_keep | (refine ⟨?_, ?_, ?_, ?_, ?_, ?_, ?_, ?_, ?_, ?_, ?_⟩ <;> assumption))
              (first | (go_at_call 31; refine (look_none_c ns (some ⟨bl, off, none⟩) cap ns[m].op b ns[m] _ ?_ ?_ k1.out k2.out _ hcf.out).mono ?_; (exact HS1.out.below (by repeat (first | exact Bl.refl _ | refine Bl.more ?_ _ | refine Below.drew ?_))); (exact HN.out.below (Bl.trans HW1.out (by repeat (first | exact Bl.refl _ | refine Bl.more ?_ _ | refine Below.drew ?_)))); rintro e w3 ⟨rfl, hb3⟩; have HK3 : Hid (KindCell w3 w1.heap.size ns[m].op b) := KindCell.below (KindCell.below (KindCell.new w1 ns[m].op b) (by rw [hcf.out]; repeat (first | exact Bl.refl _ | refine Below.drew ?_))) hb3; have HN3 : Hid (NdCell w3 wr.heap.size ns[m]) := NdCell.below (NdCell.below HN1.out (by repeat (first | exact Bl.refl _ | refine Bl.more ?_ _ | refine Below.drew ?_))) hb3; have HW3 : Hid (Below w1.heap.size w1 w3) := Bl.trans (by repeat (first | exact Bl.refl _ | refine Bl.more ?_ _ | refine Below.drew ?_)) hb3; obtain ⟨_, k30, k31, k32, k33, k34⟩ := HK3.out; rw [hcf.out] at k33; obtain ⟨_, n30, n31, n32, n33, n34, n35, _⟩ := HN3.out) | (go_at_call 34; refine (cost_no ns[m] _ _ _ _ _).mono ?_; rintro e w4 ⟨rfl, hb4⟩; obtain ⟨_, k40, k41, k42, k43, k44⟩ := HK3.out.below hb4; rw [hcf.out] at k43; obtain ⟨_, n40, n41, n42, n43, n44, n45, _⟩ := HN3.out.below hb4))
          all_goals
            go_wp2
            go_meet
            case rel => exact ⟨by rw [HOWNZ.out], HN3.out.below hb4, HK3.out.below hb4, HS1.out.below (Bl.trans HW3.out hb4), Bl.trans HW1.out (Bl.trans HW3.out hb4)⟩
        · have hcf : Hid (costF ns[m].op = 37) := by show costF ns[m].op = _; simp [costF, hop]
          have k1 : Hid (¬ (1 : Int) ∈ saysZ ns[m].op) := by show ¬ (1 : Int) ∈ saysZ ns[m].op; simp [saysZ, hop]
          have k2 : Hid (¬ (2 : Int) ∈ saysZ ns[m].op) := by show ¬ (2 : Int) ∈ saysZ ns[m].op; simp [saysZ, hop]
          have HOWNZ : Hid (ownZ ns[m].op ns[m].rows ns[m].cols (nth ns ns[m].a).cols = 1) := by show ownZ _ _ _ _ = _; simp [ownZ, hop]
          clear pa pb hop
          rw [hcf.out]
          go_region_held3 (fun w' => w'.cell? ⟨w1.heap.size, 0, none⟩ = some (.string (bs (wordL ns[m].op))) ∧ w'.cell? ⟨w1.heap.size, 1, none⟩ = some (.slice (some ⟨b, 0, none⟩) (saysZ ns[m].op).length (saysZ ns[m].op).length) ∧ w'.cell? ⟨w1.heap.size, 2, none⟩ = some (.func (.func (shapeF ns[m].op)) #[] #[]) ∧ w'.cell? ⟨w1.heap.size, 3, none⟩ = some (.func (.func 37) #[] #[]) ∧ w'.cell? ⟨w1.heap.size, 4, none⟩ = some (.func (.func (atF ns[m].op)) #[] #[])
                ∧ w'.cell? ⟨wr.heap.size, 0, none⟩ = some (.int .i64 ns[m].op) ∧ w'.cell? ⟨wr.heap.size, 1, none⟩ = some (.int .i64 ns[m].a) ∧ w'.cell? ⟨wr.heap.size, 2, none⟩ = some (.int .i64 ns[m].b) ∧ w'.cell? ⟨wr.heap.size, 3, none⟩ = some (.int .i64 ns[m].k) ∧ w'.cell? ⟨wr.heap.size, 4, none⟩ = some (.int .i64 ns[m].rows) ∧ w'.cell? ⟨wr.heap.size, 5, none⟩ = some (.int .i64 ns[m].cols))
              (first | go_keep | (refine ⟨?_, ?_, ?_, ?_, ?_, ?_, ?_, ?_, ?_, ?_, ?_⟩ <;> assumption))
              (first | (go_at_call 31; refine (look_none_c ns (some ⟨bl, off, none⟩) cap ns[m].op b ns[m] _ ?_ ?_ k1.out k2.out _ hcf.out).mono ?_; (exact HS1.out.below (by repeat (first | exact Bl.refl _ | refine Bl.more ?_ _ | refine Below.drew ?_))); (exact HN.out.below (Bl.trans HW1.out (by repeat (first | exact Bl.refl _ | refine Bl.more ?_ _ | refine Below.drew ?_)))); rintro e w3 ⟨rfl, hb3⟩; have HK3 : Hid (KindCell w3 w1.heap.size ns[m].op b) := KindCell.below (KindCell.below (KindCell.new w1 ns[m].op b) (by rw [hcf.out]; repeat (first | exact Bl.refl _ | refine Below.drew ?_))) hb3; have HN3 : Hid (NdCell w3 wr.heap.size ns[m]) := NdCell.below (NdCell.below HN1.out (by repeat (first | exact Bl.refl _ | refine Bl.more ?_ _ | refine Below.drew ?_))) hb3; have HW3 : Hid (Below w1.heap.size w1 w3) := Bl.trans (by repeat (first | exact Bl.refl _ | refine Bl.more ?_ _ | refine Below.drew ?_)) hb3; obtain ⟨_, k30, k31, k32, k33, k34⟩ := HK3.out; rw [hcf.out] at k33; obtain ⟨_, n30, n31, n32, n33, n34, n35, _⟩ := HN3.out) | (go_at_call 37; refine (cost_fill ns[m] _ _ _ _ _).mono ?_; rintro e w4 ⟨rfl, hb4⟩; obtain ⟨_, k40, k41, k42, k43, k44⟩ := HK3.out.below hb4; rw [hcf.out] at k43; obtain ⟨_, n40, n41, n42, n43, n44, n45, _⟩ := HN3.out.below hb4))
          all_goals
            go_wp2
            go_meet
            case rel => exact ⟨by rw [HOWNZ.out], HN3.out.below hb4, HK3.out.below hb4, HS1.out.below (Bl.trans HW3.out hb4), Bl.trans HW1.out (Bl.trans HW3.out hb4)⟩
        · have hcf : Hid (costF ns[m].op = 47) := by show costF ns[m].op = _; simp [costF, hop]
          have k1 : Hid ((1 : Int) ∈ saysZ ns[m].op) := by show (1 : Int) ∈ saysZ ns[m].op; simp [saysZ, hop]
          have k2 : Hid ((2 : Int) ∈ saysZ ns[m].op) := by show (2 : Int) ∈ saysZ ns[m].op; simp [saysZ, hop]
          have HOWNZ : Hid (ownZ ns[m].op ns[m].rows ns[m].cols (nth ns ns[m].a).cols = 2 * ns[m].rows * ns[m].cols * (nth ns ns[m].a).cols) := by show ownZ _ _ _ _ = _; simp [ownZ, hop]
          have hpz : partsZ ns[m].op = 2 := by simp [partsZ, hop]
          have HA : Hid ((0 ≤ ns[m].a ∧ ns[m].a < ns.length) ∧ (0 ≤ ns[m].b ∧ ns[m].b < ns.length)) := ⟨⟨(pa (by simp [hpz])).1, by have := (pa (by simp [hpz])).2; omega⟩, ⟨(pb (by simp [hpz])).1, by have := (pb (by simp [hpz])).2; omega⟩⟩
          clear hpz
          clear pa pb hop
          rw [hcf.out]
          go_region_held3 (fun w' => w'.cell? ⟨w1.heap.size, 0, none⟩ = some (.string (bs (wordL ns[m].op))) ∧ w'.cell? ⟨w1.heap.size, 1, none⟩ = some (.slice (some ⟨b, 0, none⟩) (saysZ ns[m].op).length (saysZ ns[m].op).length) ∧ w'.cell? ⟨w1.heap.size, 2, none⟩ = some (.func (.func (shapeF ns[m].op)) #[] #[]) ∧ w'.cell? ⟨w1.heap.size, 3, none⟩ = some (.func (.func 47) #[] #[]) ∧ w'.cell? ⟨w1.heap.size, 4, none⟩ = some (.func (.func (atF ns[m].op)) #[] #[])
                ∧ w'.cell? ⟨wr.heap.size, 0, none⟩ = some (.int .i64 ns[m].op) ∧ w'.cell? ⟨wr.heap.size, 1, none⟩ = some (.int .i64 ns[m].a) ∧ w'.cell? ⟨wr.heap.size, 2, none⟩ = some (.int .i64 ns[m].b) ∧ w'.cell? ⟨wr.heap.size, 3, none⟩ = some (.int .i64 ns[m].k) ∧ w'.cell? ⟨wr.heap.size, 4, none⟩ = some (.int .i64 ns[m].rows) ∧ w'.cell? ⟨wr.heap.size, 5, none⟩ = some (.int .i64 ns[m].cols))
              (first | go_keep | (refine ⟨?_, ?_, ?_, ?_, ?_, ?_, ?_, ?_, ?_, ?_, ?_⟩ <;> assumption))
              (first | (go_at_call 31; refine (look_two_c ns (some ⟨bl, off, none⟩) cap ns[m].op b ns[m] _ ?_ ?_ k1.out k2.out HA.out.1 HA.out.2 _ hcf.out).mono ?_; (exact HS1.out.below (by repeat (first | exact Bl.refl _ | refine Bl.more ?_ _ | refine Below.drew ?_))); (exact HN.out.below (Bl.trans HW1.out (by repeat (first | exact Bl.refl _ | refine Bl.more ?_ _ | refine Below.drew ?_)))); rintro e w3 ⟨rfl, hb3⟩; have HK3 : Hid (KindCell w3 w1.heap.size ns[m].op b) := KindCell.below (KindCell.below (KindCell.new w1 ns[m].op b) (by rw [hcf.out]; repeat (first | exact Bl.refl _ | refine Below.drew ?_))) hb3; have HN3 : Hid (NdCell w3 wr.heap.size ns[m]) := NdCell.below (NdCell.below HN1.out (by repeat (first | exact Bl.refl _ | refine Bl.more ?_ _ | refine Below.drew ?_))) hb3; have HW3 : Hid (Below w1.heap.size w1 w3) := Bl.trans (by repeat (first | exact Bl.refl _ | refine Bl.more ?_ _ | refine Below.drew ?_)) hb3; obtain ⟨_, k30, k31, k32, k33, k34⟩ := HK3.out; rw [hcf.out] at k33; obtain ⟨_, n30, n31, n32, n33, n34, n35, _⟩ := HN3.out) | (go_at_call 47; refine (cost_times ns[m] _ _ _ _ _ HBD.out.1 HBD.out.2.1 HBD.out.2.2.1).mono ?_; rintro e w4 ⟨rfl, hb4⟩; obtain ⟨_, k40, k41, k42, k43, k44⟩ := HK3.out.below hb4; rw [hcf.out] at k43; obtain ⟨_, n40, n41, n42, n43, n44, n45, _⟩ := HN3.out.below hb4))
          all_goals
            go_wp2
            go_meet
            case rel => exact ⟨by rw [HOWNZ.out], HN3.out.below hb4, HK3.out.below hb4, HS1.out.below (Bl.trans HW3.out hb4), Bl.trans HW1.out (Bl.trans HW3.out hb4)⟩
        · have hcf : Hid (costF ns[m].op = 40) := by show costF ns[m].op = _; rcases hop with h | h <;> simp [costF, h]
          have k1 : Hid ((1 : Int) ∈ saysZ ns[m].op) := by show (1 : Int) ∈ saysZ ns[m].op; rcases hop with h | h <;> simp [saysZ, h]
          have k2 : Hid (¬ (2 : Int) ∈ saysZ ns[m].op) := by show ¬ (2 : Int) ∈ saysZ ns[m].op; rcases hop with h | h <;> simp [saysZ, h]
          have HOWNZ : Hid (ownZ ns[m].op ns[m].rows ns[m].cols (nth ns ns[m].a).cols = ns[m].rows * ns[m].cols) := by show ownZ _ _ _ _ = _; rcases hop with h | h <;> simp [ownZ, h]
          have hpz : partsZ ns[m].op = 1 := by rcases hop with h | h <;> simp [partsZ, h]
          have HA : Hid (0 ≤ ns[m].a ∧ ns[m].a < ns.length) := ⟨(pa (by simp [hpz])).1, by have := (pa (by simp [hpz])).2; omega⟩
          clear hpz
          clear pa pb hop
          rw [hcf.out]
          go_region_held3 (fun w' => w'.cell? ⟨w1.heap.size, 0, none⟩ = some (.string (bs (wordL ns[m].op))) ∧ w'.cell? ⟨w1.heap.size, 1, none⟩ = some (.slice (some ⟨b, 0, none⟩) (saysZ ns[m].op).length (saysZ ns[m].op).length) ∧ w'.cell? ⟨w1.heap.size, 2, none⟩ = some (.func (.func (shapeF ns[m].op)) #[] #[]) ∧ w'.cell? ⟨w1.heap.size, 3, none⟩ = some (.func (.func 40) #[] #[]) ∧ w'.cell? ⟨w1.heap.size, 4, none⟩ = some (.func (.func (atF ns[m].op)) #[] #[])
                ∧ w'.cell? ⟨wr.heap.size, 0, none⟩ = some (.int .i64 ns[m].op) ∧ w'.cell? ⟨wr.heap.size, 1, none⟩ = some (.int .i64 ns[m].a) ∧ w'.cell? ⟨wr.heap.size, 2, none⟩ = some (.int .i64 ns[m].b) ∧ w'.cell? ⟨wr.heap.size, 3, none⟩ = some (.int .i64 ns[m].k) ∧ w'.cell? ⟨wr.heap.size, 4, none⟩ = some (.int .i64 ns[m].rows) ∧ w'.cell? ⟨wr.heap.size, 5, none⟩ = some (.int .i64 ns[m].cols))
              (first | go_keep | (refine ⟨?_, ?_, ?_, ?_, ?_, ?_, ?_, ?_, ?_, ?_, ?_⟩ <;> assumption))
              (first | (go_at_call 31; refine (look_one_c ns (some ⟨bl, off, none⟩) cap ns[m].op b ns[m] _ ?_ ?_ k1.out k2.out HA.out _ hcf.out).mono ?_; (exact HS1.out.below (by repeat (first | exact Bl.refl _ | refine Bl.more ?_ _ | refine Below.drew ?_))); (exact HN.out.below (Bl.trans HW1.out (by repeat (first | exact Bl.refl _ | refine Bl.more ?_ _ | refine Below.drew ?_)))); rintro e w3 ⟨rfl, hb3⟩; have HK3 : Hid (KindCell w3 w1.heap.size ns[m].op b) := KindCell.below (KindCell.below (KindCell.new w1 ns[m].op b) (by rw [hcf.out]; repeat (first | exact Bl.refl _ | refine Below.drew ?_))) hb3; have HN3 : Hid (NdCell w3 wr.heap.size ns[m]) := NdCell.below (NdCell.below HN1.out (by repeat (first | exact Bl.refl _ | refine Bl.more ?_ _ | refine Below.drew ?_))) hb3; have HW3 : Hid (Below w1.heap.size w1 w3) := Bl.trans (by repeat (first | exact Bl.refl _ | refine Bl.more ?_ _ | refine Below.drew ?_)) hb3; obtain ⟨_, k30, k31, k32, k33, k34⟩ := HK3.out; rw [hcf.out] at k33; obtain ⟨_, n30, n31, n32, n33, n34, n35, _⟩ := HN3.out) | (go_at_call 40; refine (cost_places ns[m] _ _ _ _ _ HBD.out.2.2.2).mono ?_; rintro e w4 ⟨rfl, hb4⟩; obtain ⟨_, k40, k41, k42, k43, k44⟩ := HK3.out.below hb4; rw [hcf.out] at k43; obtain ⟨_, n40, n41, n42, n43, n44, n45, _⟩ := HN3.out.below hb4))
          all_goals
            go_wp2
            go_meet
            case rel => exact ⟨by rw [HOWNZ.out], HN3.out.below hb4, HK3.out.below hb4, HS1.out.below (Bl.trans HW3.out hb4), Bl.trans HW1.out (Bl.trans HW3.out hb4)⟩
        · have hcf : Hid (costF ns[m].op = 40) := by show costF ns[m].op = _; rcases hop with h | h | h <;> simp [costF, h]
          have k1 : Hid ((1 : Int) ∈ saysZ ns[m].op) := by show (1 : Int) ∈ saysZ ns[m].op; rcases hop with h | h | h <;> simp [saysZ, h]
          have k2 : Hid ((2 : Int) ∈ saysZ ns[m].op) := by show (2 : Int) ∈ saysZ ns[m].op; rcases hop with h | h | h <;> simp [saysZ, h]
          have HOWNZ : Hid (ownZ ns[m].op ns[m].rows ns[m].cols (nth ns ns[m].a).cols = ns[m].rows * ns[m].cols) := by show ownZ _ _ _ _ = _; rcases hop with h | h | h <;> simp [ownZ, h]
          have hpz : partsZ ns[m].op = 2 := by rcases hop with h | h | h <;> simp [partsZ, h]
          have HA : Hid ((0 ≤ ns[m].a ∧ ns[m].a < ns.length) ∧ (0 ≤ ns[m].b ∧ ns[m].b < ns.length)) := ⟨⟨(pa (by simp [hpz])).1, by have := (pa (by simp [hpz])).2; omega⟩, ⟨(pb (by simp [hpz])).1, by have := (pb (by simp [hpz])).2; omega⟩⟩
          clear hpz
          clear pa pb hop
          rw [hcf.out]
          go_region_held3 (fun w' => w'.cell? ⟨w1.heap.size, 0, none⟩ = some (.string (bs (wordL ns[m].op))) ∧ w'.cell? ⟨w1.heap.size, 1, none⟩ = some (.slice (some ⟨b, 0, none⟩) (saysZ ns[m].op).length (saysZ ns[m].op).length) ∧ w'.cell? ⟨w1.heap.size, 2, none⟩ = some (.func (.func (shapeF ns[m].op)) #[] #[]) ∧ w'.cell? ⟨w1.heap.size, 3, none⟩ = some (.func (.func 40) #[] #[]) ∧ w'.cell? ⟨w1.heap.size, 4, none⟩ = some (.func (.func (atF ns[m].op)) #[] #[])
                ∧ w'.cell? ⟨wr.heap.size, 0, none⟩ = some (.int .i64 ns[m].op) ∧ w'.cell? ⟨wr.heap.size, 1, none⟩ = some (.int .i64 ns[m].a) ∧ w'.cell? ⟨wr.heap.size, 2, none⟩ = some (.int .i64 ns[m].b) ∧ w'.cell? ⟨wr.heap.size, 3, none⟩ = some (.int .i64 ns[m].k) ∧ w'.cell? ⟨wr.heap.size, 4, none⟩ = some (.int .i64 ns[m].rows) ∧ w'.cell? ⟨wr.heap.size, 5, none⟩ = some (.int .i64 ns[m].cols))
              (first | go_keep | (refine ⟨?_, ?_, ?_, ?_, ?_, ?_, ?_, ?_, ?_, ?_, ?_⟩ <;> assumption))
              (first | (go_at_call 31; refine (look_two_c ns (some ⟨bl, off, none⟩) cap ns[m].op b ns[m] _ ?_ ?_ k1.out k2.out HA.out.1 HA.out.2 _ hcf.out).mono ?_; (exact HS1.out.below (by repeat (first | exact Bl.refl _ | refine Bl.more ?_ _ | refine Below.drew ?_))); (exact HN.out.below (Bl.trans HW1.out (by repeat (first | exact Bl.refl _ | refine Bl.more ?_ _ | refine Below.drew ?_)))); rintro e w3 ⟨rfl, hb3⟩; have HK3 : Hid (KindCell w3 w1.heap.size ns[m].op b) := KindCell.below (KindCell.below (KindCell.new w1 ns[m].op b) (by rw [hcf.out]; repeat (first | exact Bl.refl _ | refine Below.drew ?_))) hb3; have HN3 : Hid (NdCell w3 wr.heap.size ns[m]) := NdCell.below (NdCell.below HN1.out (by repeat (first | exact Bl.refl _ | refine Bl.more ?_ _ | refine Below.drew ?_))) hb3; have HW3 : Hid (Below w1.heap.size w1 w3) := Bl.trans (by repeat (first | exact Bl.refl _ | refine Bl.more ?_ _ | refine Below.drew ?_)) hb3; obtain ⟨_, k30, k31, k32, k33, k34⟩ := HK3.out; rw [hcf.out] at k33; obtain ⟨_, n30, n31, n32, n33, n34, n35, _⟩ := HN3.out) | (go_at_call 40; refine (cost_places ns[m] _ _ _ _ _ HBD.out.2.2.2).mono ?_; rintro e w4 ⟨rfl, hb4⟩; obtain ⟨_, k40, k41, k42, k43, k44⟩ := HK3.out.below hb4; rw [hcf.out] at k43; obtain ⟨_, n40, n41, n42, n43, n44, n45, _⟩ := HN3.out.below hb4))
          all_goals
            go_wp2
            go_meet
            case rel => exact ⟨by rw [HOWNZ.out], HN3.out.below hb4, HK3.out.below hb4, HS1.out.below (Bl.trans HW3.out hb4), Bl.trans HW1.out (Bl.trans HW3.out hb4)⟩
      case rest =>
        obtain ⟨rfl, hnd, hkc, hsa, hbc⟩ := hcut
        have HSA : Hid (SaysAt wc b ns[m].op) := hsa
        have HBC : Hid (Below wr.heap.size wr wc) := hbc
        obtain ⟨_, n0, n1, n2, n3, n4, n5, _⟩ := hnd
        obtain ⟨_, k0, k1, k2, k3, k4⟩ := hkc
        clear hsa hbc m0 m1 m2 m3 m4 m5 halb
        go_wp2_with fail
        refine (parts_list ns[m].op b ns[m] _ HSA.out).mono ?_
        rintro e w2 ⟨po, pcap, rfl, hview, hb2⟩
        have HST : Hid (costStep ns (costs ns m) ns[m] = cappedZ (ownZ ns[m].op ns[m].rows ns[m].cols (nth ns ns[m].a).cols + psum (costs ns m) (partsTo ns[m].op ns[m] (saysZ ns[m].op).length) (partsTo ns[m].op ns[m] (saysZ ns[m].op).length).length)) := costStep_psum HO.out
        have hown2 := ownsRow_below (ownsRow_below HOWN.out HBC.out) hb2
        have HO2 : Hid (w2.ownsRow w.heap.size 3 1 (.slice (some ⟨w.heap.size, 0, none⟩) ns.length ns.length) ns.length ((treesZ ns m).map (Value.int .i64))) := hown2
        clear hown2
        have HBW : Hid (Below w.heap.size w w2) := Bl.trans (Bl.trans hbr HBC.out) hb2
        have hplen : (partsTo ns[m].op ns[m] (saysZ ns[m].op).length).length ≤ 3 := Nat.le_trans (partsTo_len _ _ _) (says_len _).2
        have hob : 0 ≤ ownZ ns[m].op ns[m].rows ns[m].cols (nth ns ns[m].a).cols ∧ ownZ ns[m].op ns[m].rows ns[m].cols (nth ns ns[m].a).cols ≤ 128 := by
          obtain ⟨⟨s1, s2⟩, s3, s4⟩ := sides HG.out m hlt
          obtain ⟨_, _, i3, i4⟩ := inner_bd HG.out m hlt
          exact (own_bd ns[m].op ns[m].rows ns[m].cols (nth ns ns[m].a).cols ⟨s1, s2⟩ ⟨s3, s4⟩ ⟨i3, i4⟩).2.2.2
        have HPB := psum_bd (ps := partsTo ns[m].op ns[m] (saysZ ns[m].op).length) (costs_bd0 ns HG.out m hm)
        have HVIEW : Hid (∀ j, j < (partsTo ns[m].op ns[m] (saysZ ns[m].op).length).length → ∃ g, po = some ⟨g, 0, none⟩ ∧ g < w2.heap.size ∧ w2.cell? ⟨g, j, none⟩ = some (.int .i64 ((partsTo ns[m].op ns[m] (saysZ ns[m].op).length).getD j 0))) := hview
        clear hview n0 n1 n2 n3 n4 n5 k0 k1 k2 k3 k4 hb2
        generalize ownZ ns[m].op ns[m].rows ns[m].cols (nth ns ns[m].a).cols = own at *
        generalize partsTo ns[m].op ns[m] (saysZ ns[m].op).length = ps at *
        go_wp2
        go_loop [8, 38] (fun s i => ∃ k : Nat, k ≤ ps.length ∧ i = .int .i64 k ∧ s = .int .i64 (own + psum (costs ns m) ps k)) (fun _ i => ps.length - (intOf i).toNat)
        case atStart => exact ⟨0, Nat.zero_le _, rfl, by simp [psum]⟩
        case round =>
          obtain ⟨k, hk, rfl, rfl⟩ := hrel
          have hpb := HPB k
          by_cases hkl : k < ps.length
          · obtain ⟨g, rfl, hgs, ck⟩ := HVIEW.out k hkl
            obtain ⟨p0, p1⟩ := HPL.out k hkl
            have HPS : Hid (psum (costs ns m) ps (k + 1) = psum (costs ns m) ps k + (costs ns m).getD (ps.getD k 0).toNat 0) := rfl
            generalize ps.getD k 0 = p at *
            obtain ⟨q, rfl⟩ := Int.eq_ofNat_of_zero_le p0
            have hqm : q < m := by omega
            have cq : w2.cell? ⟨w.heap.size, q, none⟩ = some (.int .i64 ((costs ns m).getD q 0)) := by
              obtain ⟨ao', cap', hv, hvw⟩ := ints_view (treesZ_len ns m hm) HO2.out
              simp only [Value.slice.injEq, true_and] at hv
              obtain ⟨g', e1, _, e2⟩ := hvw q (by omega)
              rw [← hv.1] at e1
              simp only [Option.some.injEq, Addr.mk.injEq, and_true] at e1
              rw [← e1, treesZ_at ns m q hqm] at e2
              exact e2
            have hcq := costs_bd0 ns HG.out m hm q
            rw [Int.toNat_natCast] at HPS
            generalize (costs ns m).getD q 0 = x at *
            go_wp2
            go_round
            case rel => exact ⟨k + 1, by omega, by go_num, by rw [HPS.out]; go_num⟩
            case measure => simp [intOf]; omega
          · have hkl' : k = ps.length := by omega
            subst hkl'
            have hcm := (HO2.out.cellAt m (by omega))
            have hcm2 : ((treesZ ns m).map (Value.int .i64))[m]? = some (.int .i64 ((treesZ ns m).getD m 0)) := by
              rw [List.getElem?_map]
              have : m < (treesZ ns m).length := by rw [treesZ_len ns m hm]; exact hlt
              simp [List.getD, List.getElem?_eq_getElem this]
            have hc3 := hcm.trans hcm2
            have hfm := HO2.out.frozenAt m
            clear hcm hcm2
            generalize (treesZ ns m).getD m 0 = old at hc3
            go_wp2
            have hcap : (if (1000000000000 : Int) < own + psum (costs ns m) ps ps.length then (1000000000000 : Int) else own + psum (costs ns m) ps ps.length) = costStep ns (costs ns m) ns[m] := by rw [HST.out]; rfl
            rw [hcap]
            have hst := (HO2.out.stored m (.int .i64 (costStep ns (costs ns m) ns[m]))).1
            rw [← List.map_set, treesZ_set ns m hlt] at hst
            exact ⟨⟨m + 1, by omega, by go_num, hst, HBW.out.setCell (Nat.le_refl _) _⟩, by simp [intOf]; omega⟩
    · have hml : m = ns.length := by omega
      subst hml
      have HZ : Hid (costZ ns = (costs ns ns.length).getD (ns.length - 1) 0) := rfl
      have h1 : 1 ≤ ns.length := h100.1
      have hx1 : (0 : Int) ≤ (ns.length : Int) - 1 := by omega
      have hx2 : (ns.length : Int) - 1 < ns.length := by omega
      have hc : wr.cell? ⟨w.heap.size, ns.length - 1, none⟩ = some (.int .i64 ((costs ns ns.length).getD (ns.length - 1) 0)) := by
        obtain ⟨ao', cap', hv, hvw⟩ := ints_view (treesZ_len ns ns.length (Nat.le_refl _)) HOWN.out
        simp only [Value.slice.injEq, true_and] at hv
        obtain ⟨g', e1, _, e2⟩ := hvw (ns.length - 1) (by omega)
        rw [← hv.1] at e1
        simp only [Option.some.injEq, Addr.mk.injEq, and_true] at e1
        rw [← e1, treesZ_at ns ns.length _ (by omega)] at e2
        exact e2
      have ht : ((ns.length : Int) - 1).toNat = ns.length - 1 := by omega
      have hc2 := hc
      rw [← ht] at hc2
      go_wp2
      go_ret
      exact ⟨ret_int (by rw [HZ.out]; first | rfl | rw [ht]), hbr⟩
end Go.Proofs.YtanlmfcllebopaaDoorRR
