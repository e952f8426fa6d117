/- For every list of nodes the law Told returns true and leaves its argument as it read before (the tied card); its one condition is the card's own: the three library tables that the row lists start as the program's text lays them. -/
import Derived.Test.YtanlmfcllebopaaDoorRRCards
import Derived.Test.YtanlmfcllebopaaDoorRRTie
import Derived.Test.YtanlmfcllebopaaDoorRRYl
import Derived.ProofKit
import Derived.OpenShut
import Derived.Deep.Slices
import Derived.Deep.DeepHandedRow
import Derived.Lib.LaidTab
import Derived.Lib.ItoaMem
import Derived.LaidMore
import Derived.MakeChecks
namespace Go.Proofs.YtanlmfcllebopaaDoorRR
open Go.ChangeShapes Go.WideShapes Go.ChangeAt Go.RowKit Go.Deep

namespace ToldRow
theorem own : ownKnob Tryd.prog.godebug = none := by kernel_rfl
theorem laidOut : laidOutB Tryd.prog = true := by kernel_rfl
theorem gTab : Tryd.prog.globalNamed "internal/strconv.uint64pow10" = some 0 := by kernel_rfl
theorem gTabType : (Tryd.prog.globals[0]?).map (·.type) = some 110 := by kernel_rfl
theorem uTab : Tryd.prog.underlying 110 = some (.array 20 103) := by kernel_rfl
theorem uU64 : Tryd.prog.underlying 103 = some (.int .u64) := by kernel_rfl
theorem cTab : Tryd.prog.cellsOf 110 = 20 := by kernel_rfl
theorem cU64 : Tryd.prog.cellsOf 103 = 1 := by kernel_rfl
theorem uInt : Tryd.prog.underlying 3 = some (.int .i64) := by kernel_rfl
theorem cInt : Tryd.prog.cellsOf 3 = 1 := by kernel_rfl
theorem cNd : Tryd.prog.cellsOf 25 = 6 := by kernel_rfl
theorem bNd : Tryd.checked.prog.bytesOf 25 = 48 := by kernel_rfl
theorem uNds : Tryd.prog.underlying 22 = some (.slice 25) := by kernel_rfl
theorem params4 : Tryd.f3.params = #[22] := by kernel_rfl

theorem table {W : World} (h : laidMetH Tryd.prog Rows.toldRow.laid W) : Lib.TabIs Tryd.prog W "internal/strconv.uint64pow10" .u64 Lib.pow10Tab := by
  rw [MakeChecks.laidMetH_plain _ _ _ (by kernel_rfl)] at h
  obtain ⟨ps, ⟨g0, t0, cs0, f0, p0, q0, hg0, ht0, hv0, hd0, ⟨g1, t1, cs1, f1, p1, q1, hg1, ht1, hv1, hd1, ⟨g2, t2, cs2, f2, p2, q2, hg2, ht2, hv2, hd2, _, _⟩, _⟩, _⟩, _⟩ := h
  obtain rfl := Option.some.inj (gTab.symm.trans hg2)
  obtain rfl := Option.some.inj (gTabType.symm.trans ht2)
  unfold Lib.TabIs
  have e : (Rows.laid_internal_strconv_uint64pow10 : DataW Unit) = Lib.tabData .u64 Lib.pow10Tab := by kernel_rfl
  rw [e] at hd2
  rw [hv2, ← Lib.cells_of_tab uTab uU64 cU64 cTab hd2]

theorem int_wf {z : Int} (h : (Lit.int .i64 z).wf = true) : inInt z := by
  exact bounds_i64 h

/-- a node, off its reading -/
theorem node_of {H : Type} {enc : TypeId × Value → H} {w : World} {base : Nat} {spare : Nat → Bool} {held : Bool} {fuel : Nat} {cs : List Value} {x : DataW H × List MemPlace}
    (h : DataW.trod enc Tryd.prog w base spare held fuel 25 cs = some x) : ∃ n : Nd, cs = n.vals.toList ∧ NdWf n := by
  obtain ⟨xs, m, _, rfl, hl, hlen, hf⟩ := DataW.trod_struct underNd h
  have hfl := fldsNd
  obtain ⟨fs, hfs⟩ : ∃ fs, fs = Tryd.prog.fieldsOf 25 := ⟨_, rfl⟩
  rw [← hfs] at hf hfl hlen
  have h6 : fs.toList.length = 6 := by simpa using congrArg List.length hfl
  obtain ⟨f0, f1, f2, f3, f4, f5, he⟩ := list6 h6
  rw [he] at hfl
  simp only [List.map_cons, List.map_nil, List.cons.injEq, Prod.mk.injEq, and_true] at hfl
  obtain ⟨⟨_, t0, o0⟩, ⟨_, t1, o1⟩, ⟨_, t2, o2⟩, ⟨_, t3, o3⟩, ⟨_, t4, o4⟩, ⟨_, t5, o5⟩⟩ := hfl
  rw [cNd] at hl
  obtain ⟨v0, v1, v2, v3, v4, v5, rfl⟩ := list6 hl
  have hx : xs.length = 6 := by rw [hlen]; simpa using h6
  obtain ⟨y0, y1, y2, y3, y4, y5, rfl⟩ := list6 hx
  have g : ∀ (i : Nat) (f : Field), fs[i]? = fs.toList[i]? := fun i _ => by simp
  have r0 := hf 0 f0 (by rw [g 0 f0, he]; rfl)
  have r1 := hf 1 f1 (by rw [g 1 f0, he]; rfl)
  have r2 := hf 2 f2 (by rw [g 2 f0, he]; rfl)
  have r3 := hf 3 f3 (by rw [g 3 f0, he]; rfl)
  have r4 := hf 4 f4 (by rw [g 4 f0, he]; rfl)
  have r5 := hf 5 f5 (by rw [g 5 f0, he]; rfl)
  rw [t0, o0, cInt] at r0
  rw [t1, o1, cInt] at r1
  rw [t2, o2, cInt] at r2
  rw [t3, o3, cInt] at r3
  rw [t4, o4, cInt] at r4
  rw [t5, o5, cInt] at r5
  obtain ⟨a0, e0, _, w0⟩ := DataW.trod_int uInt (x := y0) r0
  obtain ⟨a1, e1, _, w1⟩ := DataW.trod_int uInt (x := y1) r1
  obtain ⟨a2, e2, _, w2⟩ := DataW.trod_int uInt (x := y2) r2
  obtain ⟨a3, e3, _, w3⟩ := DataW.trod_int uInt (x := y3) r3
  obtain ⟨a4, e4, _, w4⟩ := DataW.trod_int uInt (x := y4) r4
  obtain ⟨a5, e5, _, w5⟩ := DataW.trod_int uInt (x := y5) r5
  simp at e0 e1 e2 e3 e4 e5
  subst e0 e1 e2 e3 e4 e5
  exact ⟨⟨a0, a1, a2, a3, a4, a5⟩, rfl, int_wf w0, int_wf w1, int_wf w2, int_wf w3, int_wf w4, int_wf w5⟩

set_option maxRecDepth 100000 in
theorem contract (H : Type) (enc : TypeId × Value → H) (W : World) (base : Nat) (args : Array Value) (ds gs : List (DataW H)) (before : List MemPlace)
    (hval : ∀ (j : Nat) t v, Tryd.f3.params[j]? = some t → args[j]? = some v → Value.okWide Tryd.prog W .any base t v)
    (hW : DataW.Whole enc Tryd.prog Tryd.f3.params.toList Rows.toldSpec.vars false W args.toList ds gs before)
    (hsz0 : (DataW.weightsEach Tryd.checked.prog (Tryd.f3.params.toList ++ (OpenSpec.ofChange Rows.toldSpec).bare.plain.varTypes Tryd.checked.prog) (ds ++ gs)).all (· ≤ reachBytes) = true)
    (hL : laidMetH Tryd.prog Rows.toldRow.laid W) :
    Calls Tryd.prog 3 args W fun e W' => ∃ v, e = .returned v ∧ Rows.toldSpec.post enc Tryd.prog Tryd.f3 false true false false W args v W' := by
  have hW' := hW
  obtain ⟨p, q, hA0, hV, rfl, hfz, hnd⟩ := hW
  have hA : DataW.TrodAll enc Tryd.prog W 0 (fun _ => true) true Tryd.f3.params.toList args.toList ds p := hA0
  have hsz : (DataW.weightsEach Tryd.checked.prog (Tryd.f3.params.toList ++ (OpenSpec.ofChange Rows.toldSpec).bare.plain.varTypes Tryd.checked.prog) (ds ++ gs)).all (· ≤ reachBytes) = true := hsz0
  rw [params4] at hA hval hsz
  obtain ⟨v0, vs0, d0, ds0, p0, q0, hargs, rfl, rfl, h0, r0⟩ := trodAll_cons hA
  obtain ⟨rfl, rfl, rfl⟩ := trodAll_nil r0
  obtain rfl : args = #[v0] := by cases args; simp_all
  obtain ⟨rfl, rfl⟩ := trodVars_none hV
  clear hA0
  simp only [List.append_nil] at hW'
  have h0k := h0
  obtain ⟨a0, len, cap, rfl⟩ := okWide_slice uNds (hval 0 22 v0 rfl rfl)
  have hlt : ∀ x ∈ p0, x.block < W.heap.size := fun x hx => by simpa using hW'.lt x (by simpa using hx)
  have harg : ∀ W', Below W.heap.size W W' → DataW.Trod enc Tryd.prog W' 0 (fun b => decide (b < W.heap.size)) true 22 (.slice a0 len cap) d0 p0 :=
    fun W' hn => Below.trod laidOut (by kernel_rfl) (of_decide_eq_true (by kernel_rfl)) h0k hn hlt
  have fin : ∀ (e : Ending) (W' : World), (e = .returned (.bool true) ∧ Below W.heap.size W W') → ∃ v, e = .returned v ∧ Rows.toldSpec.post enc Tryd.prog Tryd.f3 false true false false W #[.slice a0 len cap] v W' := by
    rintro e W' ⟨rfl, hb⟩
    refine ⟨_, rfl, _, _, _, [], p0 ++ [], [], hW', ?_, ?_, rfl, hb.frame _, fun h => by cases h⟩
    · exact trodAll_cons_mk (shut_bool Tryd.underlying4 _) trodAll_mk0
    · exact trodAll_cons_mk (harg _ hb) trodAll_mk0
  obtain ⟨fuel, hf⟩ := h0
  rcases open_slice uNds hf with ⟨hcs, hx⟩ | ⟨a, len', cap', m, fu, D, Pl, hcs, _, hl, hmx, hmm, hx, hel⟩
  · simp [Value.cells] at hcs
    obtain ⟨rfl, rfl, rfl⟩ := hcs
    exact (told_law [] none 0 W (fun i hi => absurd hi (Nat.not_lt_zero _)) (by rw [List.length_nil, Nat.zero_mul]; exact Nat.zero_le _) (fun i hi => absurd hi (Nat.not_lt_zero _)) (table hL)).mono fin
  · simp [Value.cells] at hcs
    obtain ⟨rfl, rfl, rfl⟩ := hcs
    simp only [if_true] at hmm
    subst hmm
    have hd := (Prod.mk.inj hx).1
    rw [hd] at hsz
    have hreach : len * 48 ≤ 140737488351232 := by
      have := sized_slice hsz (j := 0) (t := 22) (e := 25) rfl rfl (show Tryd.checked.prog.underlying 22 = some (.slice 25) from uNds)
      rw [bNd] at this
      simp only [List.length_map, List.length_range, reachBytes] at this
      omega
    rw [cNd] at hel
    have hinh : Inhabited Nd := ⟨zeroNd⟩
    obtain ⟨N, hN⟩ := choose_lt (α := Nd) (n := len) (p := fun i n => W.cells? 0 (a.add (i * 6)) 6 = some n.vals.toList ∧ NdWf n) (fun i hi => by
      obtain ⟨cs', h1, h2⟩ := hel i (by omega)
      obtain ⟨n, rfl, hw⟩ := node_of h2
      exact ⟨n, h1, hw⟩)
    obtain ⟨ns, hns⟩ : ∃ ns : List Nd, ns = (List.range len).map N := ⟨_, rfl⟩
    have hlen : ns.length = len := by rw [hns]; simp
    have hat : ∀ i, (h : i < ns.length) → ns[i] = N i := fun i h => by subst hns; simp
    have hnodes : Nodes W (some a) ns := by
      intro i hi
      rw [hat i hi]
      obtain ⟨h1, _⟩ := hN i (by omega)
      obtain ⟨_, _, hc⟩ := World.cells?_some h1
      have d0 : W.cell? ((a.add (i * 6)).add 0) = some (.int .i64 (N i).op) := hc 0 (by omega)
      have d1 : W.cell? ((a.add (i * 6)).add 1) = some (.int .i64 (N i).a) := hc 1 (by omega)
      have d2 : W.cell? ((a.add (i * 6)).add 2) = some (.int .i64 (N i).b) := hc 2 (by omega)
      have d3 : W.cell? ((a.add (i * 6)).add 3) = some (.int .i64 (N i).k) := hc 3 (by omega)
      have d4 : W.cell? ((a.add (i * 6)).add 4) = some (.int .i64 (N i).rows) := hc 4 (by omega)
      have d5 : W.cell? ((a.add (i * 6)).add 5) = some (.int .i64 (N i).cols) := hc 5 (by omega)
      simp only [Go.Deep.add_add] at d0 d1 d2 d3 d4 d5
      obtain ⟨_, _, hc0⟩ := World.cells?_some (hN 0 (by omega)).1
      have d00 : W.cell? ((a.add (0 * 6)).add 0) = some (.int .i64 (N 0).op) := hc0 0 (by omega)
      obtain ⟨b, off, spot⟩ := a
      have hspot : spot = none := by simpa [Addr.add] using World.cell?_spot d00
      subst hspot
      simp only [Lib.add_plain] at d0 d1 d2 d3 d4 d5
      refine ⟨b, off, rfl, World.block_lt_of_cell? W _ d0, ?_, ?_, ?_, ?_, ?_, ?_⟩
      · simpa using d0
      · rw [Nat.add_assoc]; exact d1
      · rw [Nat.add_assoc]; exact d2
      · rw [Nat.add_assoc]; exact d3
      · rw [Nat.add_assoc]; exact d4
      · rw [Nat.add_assoc]; exact d5
    rw [← hlen]
    exact (told_law ns (some a) _ W hnodes (by rw [hlen]; exact hreach) (fun i hi => by rw [hat i hi]; exact (hN i (by omega)).2) (table hL)).mono (by rw [hlen]; exact fin)

def setB (c : Array Value) : Obj → Obj
  | .cells _ t frozen => .cells c t frozen
  | o => o
/-- a world for the witness: the settled one, the three tables holding what their initialisers lay -/
def laidWorld (W : World) : World :=
  { W with heap := ((W.heap.modify 0 (setB #[.int .u64 1, .int .u64 10, .int .u64 100, .int .u64 1000, .int .u64 10000, .int .u64 100000, .int .u64 1000000, .int .u64 10000000, .int .u64 100000000, .int .u64 1000000000, .int .u64 10000000000, .int .u64 100000000000, .int .u64 1000000000000, .int .u64 10000000000000, .int .u64 100000000000000, .int .u64 1000000000000000, .int .u64 10000000000000000, .int .u64 100000000000000000, .int .u64 1000000000000000000, .int .u64 10000000000000000000])).modify 1 (setB #[.int .u8 0, .int .u8 1, .int .u8 28, .int .u8 2, .int .u8 29, .int .u8 14, .int .u8 24, .int .u8 3, .int .u8 30, .int .u8 22, .int .u8 20, .int .u8 15, .int .u8 25, .int .u8 17, .int .u8 4, .int .u8 8, .int .u8 31, .int .u8 27, .int .u8 13, .int .u8 23, .int .u8 21, .int .u8 19, .int .u8 16, .int .u8 7, .int .u8 26, .int .u8 12, .int .u8 18, .int .u8 6, .int .u8 11, .int .u8 5, .int .u8 10, .int .u8 9])).modify 2 (setB #[.int .u8 0, .int .u8 1, .int .u8 56, .int .u8 2, .int .u8 57, .int .u8 49, .int .u8 28, .int .u8 3, .int .u8 61, .int .u8 58, .int .u8 42, .int .u8 50, .int .u8 38, .int .u8 29, .int .u8 17, .int .u8 4, .int .u8 62, .int .u8 47, .int .u8 59, .int .u8 36, .int .u8 45, .int .u8 43, .int .u8 51, .int .u8 22, .int .u8 53, .int .u8 39, .int .u8 33, .int .u8 30, .int .u8 24, .int .u8 18, .int .u8 12, .int .u8 5, .int .u8 63, .int .u8 55, .int .u8 48, .int .u8 27, .int .u8 60, .int .u8 41, .int .u8 37, .int .u8 16, .int .u8 46, .int .u8 35, .int .u8 44, .int .u8 21, .int .u8 52, .int .u8 32, .int .u8 23, .int .u8 11, .int .u8 54, .int .u8 26, .int .u8 40, .int .u8 15, .int .u8 34, .int .u8 20, .int .u8 31, .int .u8 10, .int .u8 25, .int .u8 14, .int .u8 19, .int .u8 9, .int .u8 13, .int .u8 8, .int .u8 7, .int .u8 6]) }
theorem laid_met (os : Os) : laidMet Tryd.prog Rows.toldRow.laid ((laidWorld (World.holding Tryd.prog os ⟨#[], #[], []⟩)).forCall (fun _ _ => 0) ⟨#[], #[.slice none 0 0], []⟩).memory :=
  laidMet_of_run' 8 (by kernel_rfl) (by kernel_rfl)
theorem reads (os : Os) {H : Type} (enc : TypeId × Value → H) : ∃ places, DataW.whole enc Tryd.prog ((laidWorld (World.holding Tryd.prog os ⟨#[], #[], []⟩)).forCall (fun _ _ => 0) ⟨#[], #[.slice none 0 0], []⟩).memory Tryd.f3.params.toList Rows.toldSpec.vars false #[Value.slice none 0 0].toList 8 = some ([.nil], [], places) :=
  ⟨[], by kernel_rfl⟩

set_option maxRecDepth 100000 in
theorem lifted (os : Os) (started : os.Started) (H : Type) (enc : TypeId × Value → H) (F : Stop.Interp) :
    ReturnsInHanded {} Tryd.checked os 3 .any ((OpenSpec.ofChange Rows.toldSpec).preRow enc Tryd.prog Tryd.f3 Rows.toldRow.domain false Rows.toldRow.laid) (((OpenSpec.ofChange Rows.toldSpec).at F).post enc Tryd.prog Tryd.f3 false true false false) := by
  obtain ⟨places, hx⟩ := reads os enc
  refine returnsInHanded_of_row (C := Tryd.checked) (s := OpenSpec.ofChange Rows.toldSpec) own started (by kernel_rfl) Tryd.func3
    (witness_row_at (enc := enc) (C := Tryd.checked) false (laidWorld (World.holding Tryd.prog os ⟨#[], #[], []⟩)) #[.slice none 0 0] rfl (by kernel_rfl) (by kernel_rfl) (by kernel_rfl)
      (OpenSpec.preRow_of_cond 8 hx (by kernel_rfl) (fun k hk => by cases hk) (by kernel_rfl) (laid_met os))) ?_
  intro W base args ds gs before hval hW _ _ hsz hL _ _
  exact contract H enc W base args ds gs before hval hW hsz hL

theorem said : Rows.ToldSaid :=
  OpenClaim.holds_of_cond 3 Tryd.f3 rfl rfl rfl rfl rfl rfl rfl ⟨rfl, rfl, rfl, rfl, rfl⟩ rfl rfl rfl rfl rfl (by kernel_rfl) Tryd.func3 (by kernel_rfl)
    (of_decide_eq_true (by kernel_rfl)) (by unfold Func.isWrapper; first | (rw [if_pos (by decide +kernel)]; kernel_rfl) | (rw [if_neg (by decide +kernel)]; exact ⟨rfl, rfl⟩))
    (fun os started H enc _ F => by rw [OpenClaim.pre_eq_preRow]; exact lifted os started H enc F)

theorem plain (f : FuncId) (fn : Func) (hf : Tryd.pinned.checked.prog.funcNamed "thrift/thriftlaw.Told" = some f) (hfn : Tryd.pinned.checked.prog.funcs[f]? = some fn) :
    false = Tryd.pinned.checked.prog.looks [] ∧ ∀ (j : Nat) t, fn.params[j]? = some t → Tryd.pinned.checked.prog.wantsStandIn t = false := by
  obtain rfl : f = 3 := Option.some.inj ((show Tryd.prog.funcNamed "thrift/thriftlaw.Told" = some 3 by kernel_rfl).symm.trans hf) |>.symm
  obtain rfl : fn = Tryd.f3 := (Option.some.inj (Tryd.func3.symm.trans hfn)).symm
  refine ⟨by kernel_rfl, fun j t ht => ?_⟩
  rw [params4] at ht
  obtain rfl : t = 22 := by simpa using Array.mem_of_getElem? ht
  exact (show Tryd.prog.wantsStandIn 22 = false by kernel_rfl)
end ToldRow

theorem told_card : Rows.ToldCardSaid :=
  Claim7.holds_tied_plain_at .later [] _ _ _ _ ToldRow.said (fun _ h => by cases h) (by kernel_rfl) (fun _ h => by cases h) told_row_tie rfl ⟨rfl, rfl⟩ (by kernel_rfl) rfl ToldRow.plain (by kernel_rfl)
end Go.Proofs.YtanlmfcllebopaaDoorRR
