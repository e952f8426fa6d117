/- At every list of nodes and every list of matrices the law Runs returns true, and both read afterwards as they read before; no condition beside the row's own. -/
import Derived.Test.YtanlmfcllebopaaRows
import Derived.Test.YtanlmfcllebopaaZr
import Derived.WalkKit
import Derived.ProofKit
import Derived.OpenShut
import Derived.SizedLaws
import Derived.Deep.Slices
namespace Go.Proofs.Ytanlmfcllebopaa
open Go.ChangeShapes Go.WideShapes Go.ChangeAt Go.RowKit Go.Deep

namespace RunsRow
theorem own : ownKnob Try.prog.godebug = none := by kernel_rfl
theorem laidOut : laidOutB Try.prog = true := by kernel_rfl
theorem uInt : Try.prog.underlying 3 = some (.int .i64) := by kernel_rfl
theorem uBool : Try.prog.underlying 4 = some .bool := by kernel_rfl
theorem cInt : Try.prog.cellsOf 3 = 1 := by kernel_rfl
theorem cInts : Try.prog.cellsOf 26 = 1 := by kernel_rfl
theorem cNd : Try.prog.cellsOf 32 = 6 := by kernel_rfl
theorem cMx : Try.prog.cellsOf 34 = 3 := by kernel_rfl
theorem bNd : Try.prog.bytesOf 32 = 48 := by kernel_rfl
theorem bMx : Try.prog.bytesOf 34 = 40 := by kernel_rfl
theorem bInt : Try.prog.bytesOf 3 = 8 := by kernel_rfl
theorem uNds : Try.prog.underlying 22 = some (.slice 32) := by kernel_rfl
theorem underMx : Try.prog.underlying 34 = some (.struct (Try.prog.fieldsOf 34)) := by kernel_rfl
theorem fldsMx : (Try.prog.fieldsOf 34).toList.map (fun f => (f.type, f.offset)) = [(3, 0), (3, 1), (26, 2)] := by kernel_rfl
theorem params : Try.f3.params = #[22, 23] := by kernel_rfl
theorem plain_add (b o k : Nat) : (⟨b, o, none⟩ : Addr).add k = ⟨b, o + k, none⟩ := by unfold Addr.add; split <;> simp_all
theorem list3 {α : Type} {l : List α} (h : l.length = 3) : ∃ a b c, l = [a, b, c] := by
  match l, h with
  | [a, b, c], _ => exact ⟨a, b, c, rfl⟩
/-- a node, off its reading -/
theorem node_of {H : Type} {enc : TypeId × Value → H} {w : World} {base : Nat} {spare : Nat → Bool} {held : Bool} {fuel : Nat} {cs : List Value} {x : DataW H × List MemPlace}
    (h : DataW.trod enc Try.prog w base spare held fuel 32 cs = some x) : ∃ n : Nd, cs = n.vals.toList := by
  obtain ⟨xs, m, _, rfl, hl, hlen, hf⟩ := DataW.trod_struct underNd h
  have hfl := fldsNd
  obtain ⟨fs, hfs⟩ : ∃ fs, fs = Try.prog.fieldsOf 32 := ⟨_, rfl⟩
  rw [← hfs] at hf hfl hlen
  have h6 : fs.toList.length = 6 := by simpa using congrArg List.length hfl
  obtain ⟨f0, f1, f2, f3, f4, f5, he⟩ := list6 h6
  rw [he] at hfl
  simp only [List.map_cons, List.map_nil, List.cons.injEq, Prod.mk.injEq, and_true] at hfl
  obtain ⟨⟨_, t0, o0⟩, ⟨_, t1, o1⟩, ⟨_, t2, o2⟩, ⟨_, t3, o3⟩, ⟨_, t4, o4⟩, ⟨_, t5, o5⟩⟩ := hfl
  rw [cNd] at hl
  obtain ⟨v0, v1, v2, v3, v4, v5, rfl⟩ := list6 hl
  have hx : xs.length = 6 := by rw [hlen]; simpa using h6
  obtain ⟨y0, y1, y2, y3, y4, y5, rfl⟩ := list6 hx
  have g : ∀ (i : Nat) (f : Field), fs[i]? = fs.toList[i]? := fun i _ => by simp
  have r0 := hf 0 f0 (by rw [g 0 f0, he]; rfl)
  have r1 := hf 1 f1 (by rw [g 1 f0, he]; rfl)
  have r2 := hf 2 f2 (by rw [g 2 f0, he]; rfl)
  have r3 := hf 3 f3 (by rw [g 3 f0, he]; rfl)
  have r4 := hf 4 f4 (by rw [g 4 f0, he]; rfl)
  have r5 := hf 5 f5 (by rw [g 5 f0, he]; rfl)
  rw [t0, o0, cInt] at r0
  rw [t1, o1, cInt] at r1
  rw [t2, o2, cInt] at r2
  rw [t3, o3, cInt] at r3
  rw [t4, o4, cInt] at r4
  rw [t5, o5, cInt] at r5
  obtain ⟨a0, e0, _, w0⟩ := DataW.trod_int uInt (x := y0) r0
  obtain ⟨a1, e1, _, w1⟩ := DataW.trod_int uInt (x := y1) r1
  obtain ⟨a2, e2, _, w2⟩ := DataW.trod_int uInt (x := y2) r2
  obtain ⟨a3, e3, _, w3⟩ := DataW.trod_int uInt (x := y3) r3
  obtain ⟨a4, e4, _, w4⟩ := DataW.trod_int uInt (x := y4) r4
  obtain ⟨a5, e5, _, w5⟩ := DataW.trod_int uInt (x := y5) r5
  simp at e0 e1 e2 e3 e4 e5
  subst e0 e1 e2 e3 e4 e5
  exact ⟨⟨a0, a1, a2, a3, a4, a5⟩, rfl⟩
/-- a slice of nodes, off its reading -/
theorem nodes_read {H : Type} {enc : TypeId × Value → H} {W : World} {a0 : Option Addr} {len cap fuel : Nat} {d0 : DataW H} {p0 : List MemPlace} (hf : DataW.trod enc Try.prog W 0 (fun _ => true) true fuel 22 (Value.slice a0 len cap).cells.toList = some (d0, p0)) :
    ∃ ts : List Nd, ts.length = len ∧ Nodes W a0 ts ∧ (len = 0 ∨ ∃ es sp, d0 = .slice es sp ∧ es.length = len) := by
  rcases open_slice uNds hf with ⟨hcs, hx⟩ | ⟨a, len', cap', m, fu, D, Pl, hcs, _, hl, hmx, hmm, hx, hel⟩
  · simp [Value.cells] at hcs
    obtain ⟨rfl, rfl, rfl⟩ := hcs
    exact ⟨[], rfl, fun i hi => absurd hi (Nat.not_lt_zero _), .inl rfl⟩
  · simp [Value.cells] at hcs
    obtain ⟨rfl, rfl, rfl⟩ := hcs
    simp only [if_true] at hmm
    subst hmm
    have hd := (Prod.mk.inj hx).1
    rw [cNd] at hel
    have hinh : Inhabited Nd := ⟨zeroNd⟩
    obtain ⟨N, hN⟩ := choose_lt (α := Nd) (n := len) (p := fun i n => W.cells? 0 (a.add (i * 6)) 6 = some n.vals.toList) (fun i hi => by
      obtain ⟨cs', h1, h2⟩ := hel i (by omega)
      obtain ⟨n, rfl⟩ := node_of h2
      exact ⟨n, h1⟩)
    obtain ⟨ns, hns⟩ : ∃ ns : List Nd, ns = (List.range len).map N := ⟨_, rfl⟩
    have hlen : ns.length = len := by rw [hns]; simp
    have hat : ∀ i, (h : i < ns.length) → ns[i] = N i := fun i h => by subst hns; simp
    refine ⟨ns, hlen, ?_, .inr ⟨_, _, hd, by simp⟩⟩
    intro i hi
    rw [hat i hi]
    have h1 := hN i (by omega)
    obtain ⟨_, _, hc⟩ := World.cells?_some h1
    have d0 : W.cell? ((a.add (i * 6)).add 0) = some (.int .i64 (N i).op) := hc 0 (by omega)
    have d1 : W.cell? ((a.add (i * 6)).add 1) = some (.int .i64 (N i).a) := hc 1 (by omega)
    have d2 : W.cell? ((a.add (i * 6)).add 2) = some (.int .i64 (N i).b) := hc 2 (by omega)
    have d3 : W.cell? ((a.add (i * 6)).add 3) = some (.int .i64 (N i).k) := hc 3 (by omega)
    have d4 : W.cell? ((a.add (i * 6)).add 4) = some (.int .i64 (N i).rows) := hc 4 (by omega)
    have d5 : W.cell? ((a.add (i * 6)).add 5) = some (.int .i64 (N i).cols) := hc 5 (by omega)
    simp only [Go.Deep.add_add] at d0 d1 d2 d3 d4 d5
    obtain ⟨_, _, hc0⟩ := World.cells?_some (hN 0 (by omega))
    have d00 : W.cell? ((a.add (0 * 6)).add 0) = some (.int .i64 (N 0).op) := hc0 0 (by omega)
    obtain ⟨b, off, spot⟩ := a
    have hspot : spot = none := by simpa [Addr.add] using World.cell?_spot d00
    subst hspot
    simp only [plain_add] at d0 d1 d2 d3 d4 d5
    refine ⟨b, off, rfl, World.block_lt_of_cell? W _ d0, ?_, ?_, ?_, ?_, ?_, ?_⟩
    · simpa using d0
    · rw [Nat.add_assoc]; exact d1
    · rw [Nat.add_assoc]; exact d2
    · rw [Nat.add_assoc]; exact d3
    · rw [Nat.add_assoc]; exact d4
    · rw [Nat.add_assoc]; exact d5
/-- a list of numbers, off its reading -/
theorem ints_read {H : Type} {enc : TypeId × Value → H} {W : World} {v : Value} {fuel : Nat} {x : DataW H × List MemPlace} (hf : DataW.trod enc Try.prog W 0 (fun _ => true) true fuel 26 [v] = some x) :
    ∃ no cap, ∃ l : List Int, v = .slice no l.length cap ∧ Ints W no l ∧ (l.length = 0 ∨ ∃ es sp, x.1 = .slice es sp ∧ es.length = l.length) := by
  rcases open_slice zUnderInts hf with ⟨hcs, hx⟩ | ⟨a, len, cap, m, fu, D, Pl, hcs, _, hl, hmx, hmm, hx, hel⟩
  · simp at hcs
    exact ⟨none, 0, [], hcs, fun i hi => absurd hi (Nat.not_lt_zero _), .inl rfl⟩
  · simp at hcs
    subst hcs
    simp only [if_true] at hmm
    subst hmm
    have hd := congrArg Prod.fst hx
    rw [cInt] at hel
    obtain ⟨N, hN⟩ := choose_lt (α := Int) (n := len) (p := fun i n => W.cells? 0 (a.add (i * 1)) 1 = some [.int .i64 n]) (fun i hi => by
      obtain ⟨cs', h1, h2⟩ := hel i (by omega)
      obtain ⟨n, rfl, _, _⟩ := DataW.trod_int uInt h2
      exact ⟨n, h1⟩)
    have hlen : ((List.range len).map N).length = len := by simp
    refine ⟨some a, _, (List.range len).map N, by rw [hlen], fun i hi => ?_, .inr ⟨_, _, hd, by simp⟩⟩
    have hi' : i < len := by rwa [hlen] at hi
    obtain ⟨_, _, hc⟩ := World.cells?_some (hN i hi')
    have d0 : W.cell? ((a.add (i * 1)).add 0) = some (.int .i64 (N i)) := hc 0 (by omega)
    obtain ⟨_, _, hc0⟩ := World.cells?_some (hN 0 (by omega))
    have d00 : W.cell? ((a.add (0 * 1)).add 0) = some (.int .i64 (N 0)) := hc0 0 (by omega)
    obtain ⟨b, off, spot⟩ := a
    have hspot : spot = none := by simpa [Addr.add] using World.cell?_spot d00
    subst hspot
    simp only [plain_add, Nat.mul_one, Nat.add_zero] at d0
    exact ⟨b, off, rfl, World.block_lt_of_cell? W _ d0, by simpa using d0⟩
/-- a matrix, off its reading -/
theorem mat_of {H : Type} {enc : TypeId × Value → H} {W : World} {fuel : Nat} {cs : List Value} {x : DataW H × List MemPlace}
    (h : DataW.trod enc Try.prog W 0 (fun _ => true) true fuel 34 cs = some x) : ∃ (m : Mx) (no : Option Addr) (nc : Nat), cs = [.int .i64 m.rows, .int .i64 m.cols, .slice no m.nums.length nc] ∧ Ints W no m.nums ∧ (m.nums.length = 0 ∨ ∃ ps es sp, x.1 = .agg ps ∧ ps[2]? = some (.slice es sp) ∧ es.length = m.nums.length) := by
  obtain ⟨xs, q, _, rfl, hl, hlen, hf⟩ := DataW.trod_struct underMx h
  have hfl := fldsMx
  obtain ⟨fs, hfs⟩ : ∃ fs, fs = Try.prog.fieldsOf 34 := ⟨_, rfl⟩
  rw [← hfs] at hf hfl hlen
  have h3 : fs.toList.length = 3 := by simpa using congrArg List.length hfl
  obtain ⟨f0, f1, f2, he⟩ := list3 h3
  rw [he] at hfl
  simp only [List.map_cons, List.map_nil, List.cons.injEq, Prod.mk.injEq, and_true] at hfl
  obtain ⟨⟨t0, o0⟩, ⟨t1, o1⟩, ⟨t2, o2⟩⟩ := hfl
  rw [cMx] at hl
  obtain ⟨v0, v1, v2, rfl⟩ := list3 hl
  have hx : xs.length = 3 := by rw [hlen]; simpa using h3
  obtain ⟨y0, y1, y2, rfl⟩ := list3 hx
  have g : ∀ (i : Nat) (f : Field), fs[i]? = fs.toList[i]? := fun i _ => by simp
  have r0 := hf 0 f0 (by rw [g 0 f0, he]; rfl)
  have r1 := hf 1 f1 (by rw [g 1 f0, he]; rfl)
  have r2 := hf 2 f2 (by rw [g 2 f0, he]; rfl)
  rw [t0, o0, cInt] at r0
  rw [t1, o1, cInt] at r1
  rw [t2, o2, cInts] at r2
  obtain ⟨a0, e0, _, _⟩ := DataW.trod_int uInt (x := y0) r0
  obtain ⟨a1, e1, _, _⟩ := DataW.trod_int uInt (x := y1) r1
  simp at e0 e1
  subst e0 e1
  obtain ⟨no, nc, l, e2, hi, hd⟩ := ints_read (x := y2) r2
  subst e2
  refine ⟨⟨a0, a1, l⟩, no, nc, rfl, hi, ?_⟩
  rcases hd with e | ⟨es, sp, e, e'⟩
  · exact .inl e
  · exact .inr ⟨_, es, sp, rfl, by simp [e], e'⟩
theorem mem_all {H : Type} {P : Program} {e : TypeId} {d : DataW H} {n : Nat} (hn : n ∈ d.weights P e) : ∀ {l : List (DataW H)}, d ∈ l → n ∈ DataW.weightsAll P e l
  | [], h => by cases h
  | x :: r, h => by
    simp only [DataW.weightsAll, List.mem_append]
    rcases List.mem_cons.1 h with rfl | h
    · exact .inl hn
    · exact .inr (mem_all hn h)
/-- what the lists within a list of matrices weigh -/
theorem sized_mat {H : Type} {ts : List TypeId} {ds : List (DataW H)} (h : (DataW.weightsEach Try.prog ts ds).all (· ≤ reachBytes) = true) {j i : Nat} {es sp es' sp' ps : List (DataW H)} (ht : ts[j]? = some 23) (hd : ds[j]? = some (.slice es sp)) (hi : es[i]? = some (.agg ps)) (hp : ps[2]? = some (.slice es' sp')) : (es'.length + sp'.length) * 8 ≤ reachBytes := by
  have h1 : (es'.length + sp'.length) * 8 ∈ (DataW.slice es' sp').weights Try.prog 26 := by
    simp [DataW.weights, bInt]
  have h2 : (es'.length + sp'.length) * 8 ∈ (DataW.agg ps).weights Try.prog 34 := by
    simp only [DataW.weights, underMx]
    refine DataW.weights_mem_each (j := 2) (t := 26) ?_ hp _ h1
    have hfl := fldsMx
    have : (Try.prog.fieldsOf 34).toList.map (·.type) = [3, 3, 26] := by
      have h := congrArg (List.map Prod.fst) hfl
      simp only [List.map_map, List.map_cons, List.map_nil] at h
      exact h
    rw [this]; rfl
  have h3 := mem_all h2 (List.mem_of_getElem? hi)
  have h4 : (es'.length + sp'.length) * 8 ∈ (DataW.slice es sp).weights Try.prog 23 := by
    simp only [DataW.weights, underMxs, List.mem_cons, List.mem_append]
    exact .inr (.inl h3)
  have := List.all_eq_true.1 h _ (DataW.weights_mem_each ht hd _ h4)
  simpa using this
/-- a slice of matrices, off its reading -/
theorem mats_read {H : Type} {enc : TypeId × Value → H} {W : World} {a0 : Option Addr} {len cap fuel : Nat} {d0 : DataW H} {p0 : List MemPlace} (hf : DataW.trod enc Try.prog W 0 (fun _ => true) true fuel 23 (Value.slice a0 len cap).cells.toList = some (d0, p0)) :
    ∃ ts : List Mx, ts.length = len ∧ Mats W a0 ts ∧ (len = 0 ∨ ∃ es sp, d0 = .slice es sp ∧ es.length = len ∧ ∀ i, (h : i < ts.length) → (ts[i].nums.length = 0 ∨ ∃ ps es' sp', es[i]? = some (.agg ps) ∧ ps[2]? = some (.slice es' sp') ∧ es'.length = ts[i].nums.length)) := by
  rcases open_slice underMxs hf with ⟨hcs, hx⟩ | ⟨a, len', cap', m, fu, D, Pl, hcs, _, hl, hmx, hmm, hx, hel⟩
  · simp [Value.cells] at hcs
    obtain ⟨rfl, rfl, rfl⟩ := hcs
    exact ⟨[], rfl, fun i hi => absurd hi (Nat.not_lt_zero _), .inl rfl⟩
  · simp [Value.cells] at hcs
    obtain ⟨rfl, rfl, rfl⟩ := hcs
    simp only [if_true] at hmm
    subst hmm
    have hd := (Prod.mk.inj hx).1
    rw [cMx] at hel
    have hinh : Inhabited Mx := ⟨zeroMx⟩
    obtain ⟨N, hN⟩ := choose_lt (α := Mx) (n := len) (p := fun i n => (∃ no nc, W.cells? 0 (a.add (i * 3)) 3 = some [.int .i64 n.rows, .int .i64 n.cols, .slice no n.nums.length nc] ∧ Ints W no n.nums) ∧ (n.nums.length = 0 ∨ ∃ ps es sp, D i = .agg ps ∧ ps[2]? = some (.slice es sp) ∧ es.length = n.nums.length)) (fun i hi => by
      obtain ⟨cs', h1, h2⟩ := hel i (by omega)
      obtain ⟨n, no, nc, rfl, hi', hs⟩ := mat_of h2
      exact ⟨n, ⟨no, nc, h1, hi'⟩, hs⟩)
    obtain ⟨ns, hns⟩ : ∃ ns : List Mx, ns = (List.range len).map N := ⟨_, rfl⟩
    have hlen : ns.length = len := by rw [hns]; simp
    have hat : ∀ i, (h : i < ns.length) → ns[i] = N i := fun i h => by subst hns; simp
    refine ⟨ns, hlen, ?_, .inr ⟨_, _, hd, by simp, fun i hi => ?_⟩⟩
    · intro i hi
      rw [hat i hi]
      obtain ⟨no, nc, h1, hints⟩ := (hN i (by omega)).1
      obtain ⟨_, _, hc⟩ := World.cells?_some h1
      have d0 : W.cell? ((a.add (i * 3)).add 0) = some (.int .i64 (N i).rows) := hc 0 (by omega)
      have d1 : W.cell? ((a.add (i * 3)).add 1) = some (.int .i64 (N i).cols) := hc 1 (by omega)
      have d2 : W.cell? ((a.add (i * 3)).add 2) = some (.slice no (N i).nums.length nc) := hc 2 (by omega)
      simp only [Go.Deep.add_add] at d0 d1 d2
      obtain ⟨no0, nc0, h10, _⟩ := (hN 0 (by omega)).1
      obtain ⟨_, _, hc0⟩ := World.cells?_some h10
      have d00 : W.cell? ((a.add (0 * 3)).add 0) = some (.int .i64 (N 0).rows) := hc0 0 (by omega)
      obtain ⟨b, off, spot⟩ := a
      have hspot : spot = none := by simpa [Addr.add] using World.cell?_spot d00
      subst hspot
      simp only [plain_add] at d0 d1 d2
      refine ⟨b, off, rfl, World.block_lt_of_cell? W _ d0, ?_, ?_, no, nc, ?_, hints⟩
      · simpa using d0
      · rw [Nat.add_assoc]; exact d1
      · rw [Nat.add_assoc]; exact d2
    · rw [hat i hi]
      rcases (hN i (by omega)).2 with e | ⟨ps, es, sp, e1, e2, e3⟩
      · exact .inl e
      · exact .inr ⟨ps, es, sp, by simp [show i < len by omega, e1], e2, e3⟩
set_option maxRecDepth 100000 in
theorem lifted (os : Os) (started : os.Started) (H : Type) (enc : TypeId × Value → H) :
    ReturnsInHanded {} Try.checked os 3 .any (Rows.runsSpec.pre6 enc Try.prog Try.f3 Rows.runsRow.domain false) (Rows.runsSpec.post enc Try.prog Try.f3 false true false false) := by
  refine returnsInHanded_of_change_sized (C := Try.checked) own started (by kernel_rfl) Try.func3
    (ChangeSpec.witness6 (enc := enc) (C := Try.checked) false ⟨#[], #[.slice none 0 0, .slice none 0 0], []⟩ 8 (by kernel_rfl) (by kernel_rfl) (by kernel_rfl) (by kernel_rfl)) ?_
  intro W base args ds gs before hval0 hW _ hsz0 _
  have hsz : (DataW.weightsEach Try.prog (Try.f3.params.toList ++ Rows.runsSpec.plain.varTypes Try.prog) (ds ++ gs)).all (· ≤ reachBytes) = true := hsz0
  have hval : ∀ (j : Nat) t v, Try.f3.params[j]? = some t → args[j]? = some v → Value.okWide Try.prog W .any base t v := hval0
  have hW' := hW
  obtain ⟨p, q, hA0, hV, rfl, hfz, hnd⟩ := hW
  have hA : DataW.TrodAll enc Try.prog W 0 (fun _ => true) true Try.f3.params.toList args.toList ds p := hA0
  rw [params] at hA hval hsz
  obtain ⟨v0, vs0, d0, ds0, p0, q0, hargs, rfl, rfl, h0, r0⟩ := trodAll_cons hA
  obtain ⟨v1, vs1, d1, ds1, p1, q1, rfl, rfl, rfl, h1, r1⟩ := trodAll_cons r0
  obtain ⟨rfl, rfl, rfl⟩ := trodAll_nil r1
  obtain rfl : args = #[v0, v1] := by cases args; simp_all
  obtain ⟨rfl, rfl⟩ := trodVars_none hV
  clear hA0 hval0 hsz0
  simp only [List.append_nil] at hW'
  have h0k := h0
  have h1k := h1
  obtain ⟨a0, len0, cap0, rfl⟩ := okWide_slice uNds (hval 0 22 v0 rfl rfl)
  obtain ⟨a1, len1, cap1, rfl⟩ := okWide_slice underMxs (hval 1 23 v1 rfl rfl)
  have hlt0 : ∀ x ∈ p0, x.block < W.heap.size := fun x hx => by simpa using hW'.lt x (by simp [hx])
  have hlt1 : ∀ x ∈ p1, x.block < W.heap.size := fun x hx => by simpa using hW'.lt x (by simp [hx])
  have harg0 : ∀ W', Below W.heap.size W W' → DataW.Trod enc Try.prog W' 0 (fun b => decide (b < W.heap.size)) true 22 (.slice a0 len0 cap0) d0 p0 :=
    fun W' hn => Below.trod laidOut (by kernel_rfl) (of_decide_eq_true (by kernel_rfl)) h0k hn hlt0
  have harg1 : ∀ W', Below W.heap.size W W' → DataW.Trod enc Try.prog W' 0 (fun b => decide (b < W.heap.size)) true 23 (.slice a1 len1 cap1) d1 p1 :=
    fun W' hn => Below.trod laidOut (by kernel_rfl) (of_decide_eq_true (by kernel_rfl)) h1k hn hlt1
  obtain ⟨fuel0, hf0⟩ := h0
  obtain ⟨fuel1, hf1⟩ := h1
  obtain ⟨ns, rfl, hN, hd0⟩ := nodes_read hf0
  obtain ⟨ms, rfl, hM, hd1⟩ := mats_read hf1
  have s0 : ns.length * 48 ≤ 140737488351232 := by
    rcases hd0 with e | ⟨es, sp, rfl, e⟩
    · omega
    · have := sized_slice hsz (j := 0) (t := 22) (e := 32) rfl rfl uNds
      rw [bNd] at this
      simp only [reachBytes] at this
      omega
  have s1 : ms.length * 40 ≤ 140737488351232 := by
    rcases hd1 with e | ⟨es, sp, rfl, e, _⟩
    · omega
    · have := sized_slice hsz (j := 1) (t := 23) (e := 34) rfl rfl underMxs
      rw [bMx] at this
      simp only [reachBytes] at this
      omega
  have s2 : ∀ j, (h : j < ms.length) → ms[j].nums.length * 8 ≤ 140737488351232 := by
    intro j hj
    rcases hd1 with e | ⟨es, sp, rfl, e, hall⟩
    · omega
    · rcases hall j hj with e2 | ⟨ps, es', sp', q1, q2, q3⟩
      · omega
      · have := sized_mat hsz (j := 1) rfl rfl q1 q2
        simp only [reachBytes] at this
        omega
  refine (runs_law ns ms a0 a1 cap0 cap1 W hN hM s0 s1 s2).mono fun e W' ⟨he, hb⟩ => ?_
  subst he
  exact ⟨_, rfl, _, _, _, [], p0 ++ (p1 ++ []), [], hW', trodAll_cons_mk (shut_bool uBool _) trodAll_mk0, trodAll_cons_mk (harg0 _ hb) (trodAll_cons_mk (harg1 _ hb) trodAll_mk0), rfl, hb.frame _, fun h => by cases h⟩
end RunsRow

theorem runs_said : Rows.RunsSaid :=
  OpenClaim.holds_of_wide 3 Try.f3 rfl rfl rfl rfl rfl rfl rfl ⟨rfl, rfl, rfl, rfl, rfl⟩ rfl rfl rfl rfl rfl (by kernel_rfl) Try.func3 (by kernel_rfl)
    (of_decide_eq_true (by kernel_rfl)) (by unfold Func.isWrapper; first | (rw [if_pos (by decide +kernel)]; kernel_rfl) | (rw [if_neg (by decide +kernel)]; exact ⟨rfl, rfl⟩))
    (fun os started H enc _ => RunsRow.lifted os started H enc)
end Go.Proofs.Ytanlmfcllebopaa
